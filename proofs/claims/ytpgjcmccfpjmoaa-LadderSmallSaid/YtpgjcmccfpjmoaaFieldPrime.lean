/-
  2^255 - 19 has no divisors: Fermat's word on primes, and a certificate. Conditions: none; plain numbers.
-/
import Derived.Test.YtpgjcmccfpjmoaaFieldLaws
namespace Go.Proofs.Ytpgjcmccfpjmoaa
set_option linter.unusedVariables false

/-- A number without divisors. -/
def PrimeN (n : Nat) : Prop := 1 < n ∧ ∀ d, d ∣ n → d = 1 ∨ d = n

theorem prime_coprime {r k : Nat} (hr : PrimeN r) (h : ¬ r ∣ k) : Nat.Coprime r k := by
  rcases hr.2 (Nat.gcd r k) (Nat.gcd_dvd_left r k) with h1 | h1
  · exact h1
  · exact absurd (h1 ▸ Nat.gcd_dvd_right r k) h

/-- Ways to choose, by sums. -/
def chN : Nat → Nat → Nat
  | _, 0 => 1
  | 0, _ + 1 => 0
  | n + 1, k + 1 => chN n k + chN n (k + 1)
theorem chN_over (n k : Nat) (h : n < k) : chN n k = 0 := by
  induction n generalizing k with
  | zero => cases k with
    | zero => omega
    | succ k => rfl
  | succ n ih => cases k with
    | zero => omega
    | succ k => simp only [chN]; rw [ih k (by omega), ih (k + 1) (by omega)]
theorem chN_self (n : Nat) : chN n n = 1 := by
  induction n with
  | zero => rfl
  | succ n ih => simp only [chN]; rw [ih, chN_over n (n + 1) (by omega)]
theorem chN_absorb (n k : Nat) : (k + 1) * chN (n + 1) (k + 1) = (n + 1) * chN n k := by
  induction n generalizing k with
  | zero => cases k with
    | zero => rfl
    | succ k => simp [chN]
  | succ n ih =>
    cases k with
    | zero =>
      have h := ih 0
      simp only [chN] at h ⊢
      omega
    | succ k =>
      have h1 := ih k
      have h2 := ih (k + 1)
      have e : chN (n + 1 + 1) (k + 1 + 1) = chN (n + 1) (k + 1) + chN (n + 1) (k + 1 + 1) := rfl
      have e2 : chN (n + 1) (k + 1) = chN n k + chN n (k + 1) := rfl
      rw [e, Nat.mul_add, h2]
      have h3 : (k + 1 + 1) * chN (n + 1) (k + 1) = (n + 1) * chN n k + chN (n + 1) (k + 1) := by rw [Nat.add_mul, h1, Nat.one_mul]
      rw [h3, e2]
      simp only [Nat.add_mul, Nat.mul_add, Nat.one_mul]
      omega
/-- The sum of the first m terms. -/
def sumN (a n : Nat) : Nat → Nat
  | 0 => 0
  | m + 1 => sumN a n m + chN n m * a ^ m
theorem sumN_step (a n m : Nat) : sumN a (n + 1) (m + 1) = a * sumN a n m + sumN a n (m + 1) := by
  induction m with
  | zero => simp [sumN, chN]
  | succ m ih =>
    rw [sumN, ih]
    have e : chN (n + 1) (m + 1) = chN n m + chN n (m + 1) := rfl
    rw [e]
    simp only [sumN, Nat.pow_succ, Nat.mul_add, Nat.add_mul]
    have h : a * (chN n m * a ^ m) = chN n m * (a ^ m * a) := by rw [Nat.mul_comm a, Nat.mul_assoc]
    omega
theorem binomial (a n : Nat) : (a + 1) ^ n = sumN a n (n + 1) := by
  induction n with
  | zero => simp [sumN, chN]
  | succ n ih =>
    rw [Nat.pow_succ, ih, sumN_step]
    have e : sumN a n (n + 1 + 1) = sumN a n (n + 1) := by
      rw [sumN, chN_over n (n + 1) (by omega)]
      simp
    rw [e, Nat.mul_add, Nat.mul_one, Nat.mul_comm]
theorem mid_dvd {r : Nat} (hr : PrimeN r) (k : Nat) (h0 : 0 < k) (h : k < r) : r ∣ chN r k := by
  obtain ⟨n, rfl⟩ : ∃ n, r = n + 1 := ⟨r - 1, by omega⟩
  obtain ⟨j, rfl⟩ : ∃ j, k = j + 1 := ⟨k - 1, by omega⟩
  have hc : Nat.Coprime (n + 1) (j + 1) := prime_coprime hr fun hd => by have := Nat.le_of_dvd (by omega) hd; omega
  refine Nat.Coprime.dvd_of_dvd_mul_left hc ?_
  rw [chN_absorb]
  exact Nat.dvd_mul_right _ _
theorem sum_mod {r : Nat} (hr : PrimeN r) (a m : Nat) (h0 : 0 < m) (h : m ≤ r) : sumN a r m % r = 1 % r := by
  induction m with
  | zero => omega
  | succ m ih =>
    cases m with
    | zero => simp [sumN, chN]
    | succ m =>
      have hd := mid_dvd hr (m + 1) (by omega) (by omega)
      rw [sumN, Nat.add_mod, ih (by omega) (by omega), Nat.mul_mod, Nat.mod_eq_zero_of_dvd hd]
      simp
theorem fermat {r : Nat} (hr : PrimeN r) (a : Nat) : a ^ r % r = a % r := by
  have h1 := hr.1
  induction a with
  | zero => rw [Nat.zero_pow (by omega)]
  | succ a ih =>
    rw [binomial, sumN, Nat.add_mod, sum_mod hr a r (by omega) (Nat.le_refl _), chN_self, Nat.one_mul, ih, ← Nat.add_mod, Nat.add_comm]
theorem fermat1 {r : Nat} (hr : PrimeN r) (a : Nat) (h : ¬ r ∣ a) : a ^ (r - 1) % r = 1 := by
  have h1 := hr.1
  have hf := fermat hr a
  have hc := prime_coprime hr h
  have ha : 0 < a := Nat.pos_of_ne_zero fun h0 => h (h0 ▸ Nat.dvd_zero r)
  obtain ⟨b, hb⟩ : ∃ b, a ^ (r - 1) = b + 1 := ⟨a ^ (r - 1) - 1, by have := Nat.pow_pos (n := r - 1) ha; omega⟩
  have e : a ^ r = a * b + a := by
    have : a ^ r = a ^ (r - 1) * a := by rw [← Nat.pow_succ]; congr 1; omega
    rw [this, hb, Nat.add_mul, Nat.one_mul, Nat.mul_comm]
  have hd : r ∣ a * b := by
    rw [e] at hf
    have : (a * b + a) % r = (0 + a) % r := by rw [hf, Nat.zero_add]
    have h2 := Nat.sub_mod_eq_zero_of_mod_eq this
    rw [Nat.zero_add, Nat.add_sub_cancel] at h2
    exact Nat.dvd_of_mod_eq_zero h2
  have hb2 : r ∣ b := Nat.Coprime.dvd_of_dvd_mul_left hc hd
  rw [hb, Nat.add_mod, Nat.mod_eq_zero_of_dvd hb2, Nat.zero_add, Nat.mod_mod, Nat.mod_eq_of_lt h1]
theorem pow_mul_one {r a n : Nat} (h1 : 1 < r) (h : a ^ n % r = 1) (k : Nat) : a ^ (n * k) % r = 1 := by
  rw [Nat.pow_mul, Nat.pow_mod, h, Nat.one_pow, Nat.mod_eq_of_lt h1]
theorem pow_gcd {r a : Nat} (h1 : 1 < r) (m n : Nat) : a ^ m % r = 1 → a ^ n % r = 1 → a ^ (Nat.gcd m n) % r = 1 := by
  induction m, n using Nat.gcd.induction with
  | H0 n => intro _ h; rwa [Nat.gcd_zero_left]
  | H1 m n h0 ih =>
    intro hm hn
    rw [Nat.gcd_rec]
    refine ih ?_ hm
    have e : a ^ n = a ^ (m * (n / m)) * a ^ (n % m) := by rw [← Nat.pow_add, Nat.div_add_mod]
    rw [e, Nat.mul_mod, pow_mul_one h1 hm, Nat.one_mul, Nat.mod_mod] at hn
    exact hn
theorem pock {N q a m : Nat} (hN : 1 < N) (hq : PrimeN q) (hm : N - 1 = q * m) (h1 : a ^ (N - 1) % N = 1) (h2 : Nat.gcd (a ^ m % N + (N - 1)) N = 1) (r : Nat) (hr : PrimeN r) (hd : r ∣ N) : q ∣ r - 1 := by
  refine Decidable.byContradiction fun hnd => ?_
  have hr1 := hr.1
  have hc : Nat.Coprime q (r - 1) := prime_coprime hq hnd
  have e1 : a ^ (N - 1) % r = 1 := by
    have := congrArg (· % r) h1
    simp only [Nat.mod_mod_of_dvd _ hd] at this
    rw [this, Nat.mod_eq_of_lt hr1]
  have hna : ¬ r ∣ a := fun hra => by
    have : a ^ (N - 1) % r = 0 := Nat.mod_eq_zero_of_dvd (Nat.dvd_trans hra ⟨a ^ (N - 2), by rw [← Nat.pow_succ', show (N - 2).succ = N - 1 by omega]⟩)
    omega
  have e2 := fermat1 hr a hna
  have e3 := pow_gcd hr1 _ _ e1 e2
  rw [hm, Nat.Coprime.gcd_mul_left_cancel _ hc] at e3
  obtain ⟨t, ht⟩ := Nat.gcd_dvd_left m (r - 1)
  have e4 : a ^ m % r = 1 := by
    have := pow_mul_one hr1 e3 t
    rwa [← ht] at this
  have hdr : r ∣ a ^ m % N + (N - 1) := by
    have h5 : (a ^ m % N) % r = 1 := by rw [Nat.mod_mod_of_dvd _ hd, e4]
    obtain ⟨s, hs⟩ := hd
    have h6 : a ^ m % N = r * (a ^ m % N / r) + 1 := by have := Nat.div_add_mod (a ^ m % N) r; omega
    refine ⟨a ^ m % N / r + s, ?_⟩
    rw [Nat.mul_add, ← hs]
    omega
  have hg := Nat.dvd_gcd hdr hd
  rw [h2] at hg
  have := Nat.le_of_dvd (by omega) hg
  omega
theorem has_prime : ∀ n, 1 < n → ∃ r, PrimeN r ∧ r ∣ n ∧ (PrimeN n ∨ r * r ≤ n) := by
  intro n
  induction n using Nat.strongRecOn with
  | _ n ih =>
    intro h
    by_cases hp : ∀ d, d ∣ n → d = 1 ∨ d = n
    · exact ⟨n, ⟨h, hp⟩, Nat.dvd_refl _, .inl ⟨h, hp⟩⟩
    · have : ∃ d, d ∣ n ∧ d ≠ 1 ∧ d ≠ n := by
        refine Classical.byContradiction fun hne => hp fun d hd => ?_
        refine Classical.byContradiction fun hx => hne ⟨d, hd, fun h => hx (.inl h), fun h => hx (.inr h)⟩
      obtain ⟨d, ⟨e, rfl⟩, h1, h2⟩ := this
      have hd0 : d ≠ 0 := fun h0 => by subst h0; simp at h
      have he0 : e ≠ 0 := fun h0 => by subst h0; simp at h
      have he1 : e ≠ 1 := fun h0 => by subst h0; simp at h2
      rcases Nat.le_total d e with hde | hde
      · obtain ⟨r, hr, hrd, _⟩ := ih d (by
          have : d * 1 < d * e := Nat.mul_lt_mul_of_pos_left (by omega) (by omega)
          omega) (by omega)
        refine ⟨r, hr, Nat.dvd_trans hrd (Nat.dvd_mul_right _ _), .inr ?_⟩
        have h3 := Nat.le_of_dvd (by omega) hrd
        exact Nat.mul_le_mul h3 (Nat.le_trans h3 hde)
      · obtain ⟨r, hr, hrd, _⟩ := ih e (by
          have : 1 * e < d * e := Nat.mul_lt_mul_of_pos_right (by omega) (by omega)
          omega) (by omega)
        refine ⟨r, hr, Nat.dvd_trans hrd (Nat.dvd_mul_left _ _), .inr ?_⟩
        have h3 := Nat.le_of_dvd (by omega) hrd
        exact Nat.mul_le_mul (Nat.le_trans h3 hde) h3
/-- By small divisors. -/
def noDiv (n : Nat) : Nat → Bool
  | 0 => true
  | k + 1 => (decide (k + 1 < 2) || n % (k + 1) != 0) && noDiv n k
theorem noDiv_spec {n : Nat} : ∀ {b : Nat}, noDiv n b = true → ∀ d, 2 ≤ d → d ≤ b → ¬ d ∣ n
  | 0, _, d, h1, h2, _ => by omega
  | b + 1, h, d, h1, h2, hd => by
    simp only [noDiv, Bool.and_eq_true, Bool.or_eq_true, decide_eq_true_eq, bne_iff_ne, ne_eq] at h
    by_cases e : d = b + 1
    · subst e
      rcases h.1 with h3 | h3
      · omega
      · exact h3 (Nat.mod_eq_zero_of_dvd hd)
    · exact noDiv_spec h.2 d h1 (by omega) hd
theorem prime_small {n b : Nat} (h : 1 < n) (hb : n < (b + 1) * (b + 1)) (hn : noDiv n b = true) : PrimeN n := by
  obtain ⟨r, hr, hd, h1 | h1⟩ := has_prime n h
  · exact h1
  · have h2 : r ≤ b := Nat.le_of_not_lt fun hlt => by
      have := Nat.mul_le_mul (show b + 1 ≤ r by omega) (show b + 1 ≤ r by omega)
      omega
    exact absurd hd (noDiv_spec hn r hr.1 h2)
theorem prime_two {N q s : Nat} (hN : 1 < N) (hc : Nat.gcd q s = 1) (hb : N < (q * s + 1) * (q * s + 1)) (h1 : ∀ r, PrimeN r → r ∣ N → q ∣ r - 1) (h2 : ∀ r, PrimeN r → r ∣ N → s ∣ r - 1) : PrimeN N := by
  obtain ⟨r, hr, hd, h3 | h3⟩ := has_prime N hN
  · exact h3
  · have hr1 := hr.1
    have h4 : q * s ∣ r - 1 := Nat.Coprime.mul_dvd_of_dvd_of_dvd hc (h1 r hr hd) (h2 r hr hd)
    have h5 := Nat.le_of_dvd (by omega) h4
    have := Nat.mul_le_mul (show q * s + 1 ≤ r by omega) (show q * s + 1 ≤ r by omega)
    omega
/-- What the kernel can reckon. -/
def powN (N a n : Nat) : Nat → Nat
  | 0 => 1
  | f + 1 => if n = 0 then 1 else if n % 2 = 1 then a * powN N (a * a % N) (n / 2) f % N else powN N (a * a % N) (n / 2) f % N
theorem powN_eq (N f : Nat) : ∀ a n, n < 2 ^ f → powN N a n f % N = a ^ n % N := by
  induction f with
  | zero => intro a n h; simp at h; subst h; simp [powN]
  | succ f ih =>
    intro a n h
    unfold powN
    have hp : (a * a % N) ^ (n / 2) % N = a ^ (2 * (n / 2)) % N := by rw [← Nat.pow_mod, Nat.pow_mul, Nat.pow_two]
    split
    · rename_i h0; subst h0; simp
    · have hn : n / 2 < 2 ^ f := by rw [Nat.pow_succ] at h; omega
      have hi := ih (a * a % N) (n / 2) hn
      split
      · rename_i h1
        rw [Nat.mod_mod, Nat.mul_mod, hi, hp, ← Nat.mul_mod, ← Nat.pow_succ', show (2 * (n / 2)).succ = n by omega]
      · rename_i h1
        rw [Nat.mod_mod, hi, hp, show 2 * (n / 2) = n by omega]
/-- One step of a certificate, by reckoning. -/
def certB (N q a m f : Nat) : Bool := decide (1 < N) && N - 1 == q * m && decide (N < 2 ^ f) && powN N a (N - 1) f % N == 1 && Nat.gcd (powN N a m f % N + (N - 1)) N == 1
theorem cert {N q a m f : Nat} (hq : PrimeN q) (h : certB N q a m f = true) : ∀ r, PrimeN r → r ∣ N → q ∣ r - 1 := by
  simp only [certB, Bool.and_eq_true, decide_eq_true_eq, beq_iff_eq] at h
  obtain ⟨⟨⟨⟨h1, h2⟩, h3⟩, h4⟩, h5⟩ := h
  have hm : m ≤ N - 1 := by
    rw [h2]
    exact Nat.le_mul_of_pos_left _ (by have := hq.1; omega)
  rw [powN_eq N f a (N - 1) (by omega)] at h4
  rw [powN_eq N f a m (by omega)] at h5
  exact pock h1 hq h2 h4 h5
theorem prime_one {N q : Nat} (hN : 1 < N) (hb : N < (q + 1) * (q + 1)) (h1 : ∀ r, PrimeN r → r ∣ N → q ∣ r - 1) : PrimeN N :=
  prime_two (s := 1) hN (Nat.gcd_one_right q) (by rw [Nat.mul_one]; exact hb) h1 (fun r _ _ => Nat.one_dvd _)
theorem p_127 : PrimeN 127 := prime_small (b := 11) (by decide) (by decide) (by decide +kernel)
theorem p_8574133 : PrimeN 8574133 := prime_small (b := 2928) (by decide) (by decide) (by decide +kernel)
theorem p_75707 : PrimeN 75707 := prime_small (b := 275) (by decide) (by decide) (by decide +kernel)
theorem p_353 : PrimeN 353 := prime_small (b := 18) (by decide) (by decide) (by decide +kernel)
theorem p_1919519569386763 : PrimeN 1919519569386763 := prime_two (q := 8574133) (s := 127) (by decide) (by decide +kernel) (by decide) (cert (a := 2) (m := 223873314) (f := 51) p_8574133 (by decide +kernel)) (cert (a := 2) (m := 15114327318006) (f := 51) p_127 (by decide +kernel))
theorem p_75445702479781427272750846543864801 : PrimeN 75445702479781427272750846543864801 := prime_two (q := 1919519569386763) (s := 75707) (by decide) (by decide +kernel) (by decide) (cert (a := 2) (m := 39304471641247389600) (f := 116) p_1919519569386763 (by decide +kernel)) (cert (a := 2) (m := 996548568557483816196003626400) (f := 116) p_75707 (by decide +kernel))
theorem p_74058212732561358302231226437062788676166966415465897661863160754340907 : PrimeN 74058212732561358302231226437062788676166966415465897661863160754340907 := prime_two (q := 75445702479781427272750846543864801) (s := 353) (by decide) (by decide +kernel) (by decide) (cert (a := 2) (m := 981609426360740691344999861639072106) (f := 236) p_75445702479781427272750846543864801 (by decide +kernel)) (cert (a := 2) (m := 209796636636151156663544550813209033076960244803019540118592523383402) (f := 236) p_353 (by decide +kernel))
theorem p_p : PrimeN 57896044618658097711785492504343953926634992332820282019728792003956564819949 := prime_one (q := 74058212732561358302231226437062788676166966415465897661863160754340907) (by decide) (by decide) (cert (a := 2) (m := 781764) (f := 255) p_74058212732561358302231226437062788676166966415465897661863160754340907 (by decide +kernel))

theorem pF_prime : PrimeN pF := p_p
theorem one_more : 1 + (pF - 2) = pF - 1 := by decide +kernel
theorem inv_mul (x : Nat) (h : x < pF) (h0 : x ≠ 0) : x * invF x % pF = 1 := by
  have hd : ¬ pF ∣ x := fun hd => by have := Nat.le_of_dvd (by omega) hd; omega
  have hf := fermat1 pF_prime x hd
  have e : x * invF x % pF = x ^ (pF - 1) % pF := by
    have h1 := powF_mul x 1 (pF - 2)
    rw [powF_one x h, one_more] at h1
    exact h1
  rw [e, hf]
theorem powF_zero (n : Nat) (h : 0 < n) : powF 0 n = 0 := by
  unfold powF
  rw [Nat.zero_pow h, Nat.zero_mod]
theorem inv_zero : invF 0 = 0 := powF_zero (pF - 2) (by decide +kernel)
theorem inv_inv (x : Nat) (h : x < pF) : invF (invF x) = x := by
  by_cases h0 : x = 0
  · rw [h0, inv_zero, inv_zero]
  · have hd : ¬ pF ∣ x := fun hd => by have := Nat.le_of_dvd (by omega) hd; omega
    have hf := fermat1 pF_prime x hd
    have e1 : invF (invF x) = powF x ((pF - 2) * (pF - 2)) := powF_pow x (pF - 2) (pF - 2)
    have e2 : (pF - 2) * (pF - 2) = (pF - 1) * (pF - 3) + 1 := by decide +kernel
    rw [e1, e2, ← powF_mul, powF_one x h]
    unfold powF
    rw [pow_mul_one pF_prime.1 hf, Nat.one_mul, Nat.mod_eq_of_lt h]
theorem inv_prod (a b : Nat) : invF (a * b % pF) = invF a * invF b % pF := by
  unfold invF powF
  rw [← Nat.pow_mod, Nat.mul_pow, Nat.mul_mod]
theorem squares (x y : Nat) (hx : x < pF) (hy : y < pF) : (x + y) % pF * subF x y % pF = subF (x * x % pF) (y * y % pF) := by
  refine sub_uniq (modP_lt _) (modP_lt _) (modP_lt _) ?_
  rw [Nat.mod_mul_mod]
  unfold subF
  rw [Nat.mul_mod_mod, Nat.mod_add_mod, Nat.add_mod_mod]
  have e : (x + y) * (x + (pF - y)) + y * y = x * x + (x + y) * pF := by
    obtain ⟨d, hd⟩ : ∃ d, pF = y + d := ⟨pF - y, by omega⟩
    rw [hd, Nat.add_sub_cancel_left]
    simp only [Nat.add_mul, Nat.mul_add, Nat.mul_comm y x]
    omega
  rw [e, Nat.add_mul_mod_self_right]
end Go.Proofs.Ytpgjcmccfpjmoaa
