/-
  Numbers modulo 2^255 - 19 as plain Lean functions: five digits of 51 bits, carries, sums and products. Conditions: none; nothing of a program is named here.
-/
namespace Go.Proofs.Ytpgjcmccfpjmoaa
set_option linter.unusedVariables false

def Mx : Nat := 2251799813685248
def pF : Nat := 57896044618658097711785492504343953926634992332820282019728792003956564819949
theorem Mx_pos : 0 < Mx := by decide
theorem Mx5 : Mx ^ 5 = pF + 19 := by decide

def valL : List Nat → Nat
  | [] => 0
  | x :: l => x + Mx * valL l
def digL : Nat → Nat → List Nat
  | 0, _ => []
  | k + 1, n => n % Mx :: digL k (n / Mx)

theorem digL_length (k n : Nat) : (digL k n).length = k := by
  induction k generalizing n with
  | zero => rfl
  | succ k ih => simp [digL, ih]
theorem digL_lt (k n : Nat) : ∀ x ∈ digL k n, x < Mx := by
  induction k generalizing n with
  | zero => intro x hx; cases hx
  | succ k ih =>
    intro x hx
    rcases List.mem_cons.1 hx with rfl | hx
    · exact Nat.mod_lt _ Mx_pos
    · exact ih _ x hx
theorem digL_valL (l : List Nat) (h : ∀ x ∈ l, x < Mx) : digL l.length (valL l) = l := by
  induction l with
  | nil => rfl
  | cons x l ih =>
    have hx := h x (by simp)
    simp only [List.length_cons, digL, valL]
    rw [Nat.add_mul_mod_self_left, Nat.mod_eq_of_lt hx, Nat.add_mul_div_left _ _ Mx_pos, Nat.div_eq_of_lt hx, Nat.zero_add, ih fun y hy => h y (by simp [hy])]
theorem valL_digL (k n : Nat) : valL (digL k n) = n % Mx ^ k := by
  induction k generalizing n with
  | zero => simp [digL, valL, Nat.mod_one]
  | succ k ih => rw [digL, valL, ih, Nat.pow_succ, Nat.mul_comm (Mx ^ k), Nat.mod_mul]
theorem digL_snoc (k n : Nat) : digL (k + 1) n = digL k n ++ [n / Mx ^ k % Mx] := by
  induction k generalizing n with
  | zero => simp [digL]
  | succ k ih =>
    rw [digL, ih, digL]
    simp [Nat.div_div_eq_div_mul, Nat.pow_succ, Nat.mul_comm]
theorem digL_mod (k n x : Nat) : digL k (n + Mx ^ k * x) = digL k n := by
  induction k generalizing n with
  | zero => rfl
  | succ k ih =>
    have e : n + Mx ^ (k + 1) * x = n + Mx * (Mx ^ k * x) := by rw [Nat.pow_succ, Nat.mul_comm (Mx ^ k) Mx, Nat.mul_assoc]
    rw [digL, digL, e, Nat.add_mul_mod_self_left, Nat.add_mul_div_left _ _ Mx_pos, ih]
theorem valL_append (a b : List Nat) : valL (a ++ b) = valL a + Mx ^ a.length * valL b := by
  induction a with
  | nil => simp [valL]
  | cons x a ih =>
    simp only [List.cons_append, valL, ih, List.length_cons, Nat.pow_succ]
    rw [Nat.mul_add, ← Nat.mul_assoc, Nat.mul_comm Mx (Mx ^ a.length), Nat.add_assoc]
theorem digL_inj {k m n : Nat} (hm : m < Mx ^ k) (hn : n < Mx ^ k) (h : digL k m = digL k n) : m = n := by
  have := congrArg valL h
  rwa [valL_digL, valL_digL, Nat.mod_eq_of_lt hm, Nat.mod_eq_of_lt hn] at this

/-- What carrying has made of the first k, and what it hands on. -/
def stC (l : List Nat) (k : Nat) : List Nat := digL k (valL (l.take k)) ++ l.drop k
def cyC (l : List Nat) (k : Nat) : Nat := valL (l.take k) / Mx ^ k
theorem stC_length (l : List Nat) (k : Nat) (h : k ≤ l.length) : (stC l k).length = l.length := by simp [stC, digL_length]; omega
theorem stC_zero (l : List Nat) : stC l 0 = l := by simp [stC, digL]
theorem cyC_zero (l : List Nat) : cyC l 0 = 0 := by simp [cyC, valL]
theorem take_val (l : List Nat) (k : Nat) (h : k < l.length) : valL (l.take (k + 1)) = valL (l.take k) + Mx ^ k * l.getD k 0 := by
  rw [List.take_succ_eq_append_getElem h, valL_append, List.length_take_of_le (by omega)]
  simp [valL, h]
theorem cyC_succ (l : List Nat) (k : Nat) (h : k < l.length) : cyC l (k + 1) = (l.getD k 0 + cyC l k) / Mx := by
  unfold cyC
  rw [take_val l k h, Nat.pow_succ, ← Nat.div_div_eq_div_mul, Nat.add_mul_div_left _ _ (Nat.pow_pos Mx_pos), Nat.add_comm]
theorem stC_get (l : List Nat) (k : Nat) (h : k < l.length) : (stC l k).getD k 0 = l.getD k 0 := by
  simp only [stC, List.getD_eq_getElem?_getD]
  rw [List.getElem?_append_right (by rw [digL_length]; exact Nat.le_refl _), digL_length, Nat.sub_self, List.getElem?_drop]
  simp
theorem stC_step (l : List Nat) (k : Nat) (h : k < l.length) : (stC l k).set k ((l.getD k 0 + cyC l k) % Mx) = stC l (k + 1) := by
  unfold stC
  rw [List.set_append_right _ _ (by rw [digL_length]; exact Nat.le_refl _), digL_length, Nat.sub_self, digL_snoc, take_val l k h, digL_mod, List.append_assoc]
  congr 1
  rw [List.drop_eq_getElem_cons h, List.set_cons_zero]
  have e : (valL (l.take k) + Mx ^ k * l.getD k 0) / Mx ^ k % Mx = (l.getD k 0 + cyC l k) % Mx := by
    rw [Nat.add_mul_div_left _ _ (Nat.pow_pos Mx_pos), Nat.add_comm]
    rfl
  rw [e]
  rfl
theorem cyC_lt (l : List Nat) (B : Nat) (hB : ∀ x ∈ l, x < B) (hB0 : 0 < B) (k : Nat) (h : k ≤ l.length) : Mx * cyC l k < 2 * B := by
  induction k with
  | zero => rw [cyC_zero]; omega
  | succ k ih =>
    have hx : l.getD k 0 < B := by
      have := hB (l[k]'(by omega)) (List.getElem_mem _)
      simpa [List.getD_eq_getElem?_getD, show k < l.length by omega] using this
    have h1 := ih (by omega)
    rw [cyC_succ l k (by omega)]
    have h2 := Nat.mul_div_le (l.getD k 0 + cyC l k) Mx
    have h3 : 2 * cyC l k ≤ Mx * cyC l k := Nat.mul_le_mul_right _ (by decide)
    omega

/-- One round of carrying, what is left over coming back to the first one nineteen times. -/
def carriedL (l : List Nat) : List Nat := (digL 5 (valL l)).set 0 (valL l % Mx + 19 * (valL l / Mx ^ 5))
def foldN (n : Nat) : Nat := n % Mx ^ 5 + 19 * (n / Mx ^ 5)
theorem carriedL_length (l : List Nat) : (carriedL l).length = 5 := by simp [carriedL, digL_length]
theorem digL5 (n : Nat) : digL 5 n = [n % Mx, n / Mx % Mx, n / Mx / Mx % Mx, n / Mx / Mx / Mx % Mx, n / Mx / Mx / Mx / Mx % Mx] := rfl
theorem carriedL_val (l : List Nat) : valL (carriedL l) = foldN (valL l) := by
  generalize hn : valL l = n
  have h1 := valL_digL 5 n
  unfold carriedL foldN
  rw [hn]
  rw [digL5] at h1 ⊢
  simp only [List.set_cons_zero, valL] at h1 ⊢
  omega
theorem foldN_mod (n : Nat) : foldN n % pF = n % pF := by
  have h := Nat.div_add_mod n (Mx ^ 5)
  have e : n = foldN n + pF * (n / Mx ^ 5) := by
    unfold foldN
    have : Mx ^ 5 * (n / Mx ^ 5) = pF * (n / Mx ^ 5) + 19 * (n / Mx ^ 5) := by rw [Mx5, Nat.add_mul]
    omega
  rw [e, Nat.add_mul_mod_self_left]
  rw [← e]
theorem carried_again (n2 : Nat) (h : n2 < Mx ^ 5 + 2000000) : (digL 5 n2).set 0 (n2 % Mx + 19 * (n2 / Mx ^ 5)) = digL 5 (foldN n2) ∧ foldN n2 < Mx ^ 5 := by
  rcases Nat.lt_or_ge n2 (Mx ^ 5) with hl | hl
  · have e : foldN n2 = n2 := by unfold foldN; rw [Nat.mod_eq_of_lt hl, Nat.div_eq_of_lt hl]; omega
    rw [e, Nat.div_eq_of_lt hl, digL5]
    exact ⟨by simp, hl⟩
  · obtain ⟨s, rfl⟩ : ∃ s, n2 = s + Mx ^ 5 * 1 := ⟨n2 - Mx ^ 5, by omega⟩
    have hs : s < 2000000 := by omega
    have hM : 3000000 < Mx := by decide
    have hM5 : Mx < Mx ^ 5 := by decide
    have d1 : (s + Mx ^ 5 * 1) / Mx ^ 5 = 1 := by rw [Nat.add_mul_div_left _ _ (by decide), Nat.div_eq_of_lt (by omega)]
    have d2 : (s + Mx ^ 5 * 1) % Mx ^ 5 = s := by rw [Nat.add_mul_mod_self_left, Nat.mod_eq_of_lt (by omega)]
    have d3 : (s + Mx ^ 5 * 1) % Mx = s := by
      rw [show s + Mx ^ 5 * 1 = s + Mx * Mx ^ 4 by rw [Nat.mul_one, Nat.mul_comm Mx]; rfl, Nat.add_mul_mod_self_left, Nat.mod_eq_of_lt (by omega)]
    have e : foldN (s + Mx ^ 5 * 1) = s + 19 := by unfold foldN; rw [d1, d2]
    rw [e, d1, d3, digL_mod, digL5, digL5]
    have z1 : s / Mx = 0 := Nat.div_eq_of_lt (by omega)
    have z2 : (s + 19) / Mx = 0 := Nat.div_eq_of_lt (by omega)
    have z3 : (s + 19) % Mx = s + 19 := Nat.mod_eq_of_lt (by omega)
    refine ⟨?_, by omega⟩
    rw [z1, z2, z3]
    simp
theorem valL5_lt (l : List Nat) (hl : l.length = 5) (h : ∀ x ∈ l, x < 9223372036854775808) : valL l < Mx ^ 5 * 8192 := by
  match l, hl with
  | [a, b, c, d, e], _ =>
    have ha := h a (by simp)
    have hb := h b (by simp)
    have hc := h c (by simp)
    have hd := h d (by simp)
    have he := h e (by simp)
    simp only [valL, Mx]
    omega
theorem foldN_lt (n : Nat) (h : n < Mx ^ 5 * 8192) : foldN n < Mx ^ 5 + 2000000 := by
  have h1 : n / Mx ^ 5 < 8192 := Nat.div_lt_of_lt_mul h
  have h2 := Nat.mod_lt n (show 0 < Mx ^ 5 by decide)
  unfold foldN
  omega

/-- What two rounds make. -/
def twiceN (n : Nat) : Nat := foldN (foldN n)
theorem carried_twice (l : List Nat) (hl : l.length = 5) (h : ∀ x ∈ l, x < 9223372036854775808) : carriedL (carriedL l) = digL 5 (twiceN (valL l)) ∧ twiceN (valL l) < Mx ^ 5 := by
  have h1 := carried_again (foldN (valL l)) (foldN_lt _ (valL5_lt l hl h))
  unfold twiceN
  refine ⟨?_, h1.2⟩
  rw [← h1.1]
  unfold carriedL
  rw [show valL ((digL 5 (valL l)).set 0 (valL l % Mx + 19 * (valL l / Mx ^ 5))) = foldN (valL l) from carriedL_val l]
theorem twiceN_mod (n : Nat) : twiceN n % pF = n % pF := by unfold twiceN; rw [foldN_mod, foldN_mod]
theorem carriedL_lt (l : List Nat) (hl : l.length = 5) (h : ∀ x ∈ l, x < 9223372036854775808) : ∀ x ∈ carriedL l, x < 9223372036854775808 := by
  have h1 : valL l / Mx ^ 5 < 8192 := Nat.div_lt_of_lt_mul (valL5_lt l hl h)
  have h2 := Nat.mod_lt (valL l) Mx_pos
  have hM : Mx + 200000 < 9223372036854775808 := by decide
  intro x hx
  rcases List.mem_or_eq_of_mem_set hx with hx | rfl
  · have := digL_lt 5 _ x hx
    omega
  · omega

/-- The one array of a number below p. -/
def elemL (n : Nat) : List Nat := digL 5 n
theorem elemL_length (n : Nat) : (elemL n).length = 5 := digL_length 5 n
theorem elemL_lt (n : Nat) : ∀ x ∈ elemL n, x < Mx := digL_lt 5 n
theorem pF_lt : pF < Mx ^ 5 := by decide
theorem elemL_val (n : Nat) (h : n < pF) : valL (elemL n) = n := by
  unfold elemL
  rw [valL_digL, Nat.mod_eq_of_lt (Nat.lt_trans h pF_lt)]
theorem elemL_inj {m n : Nat} (hm : m < pF) (hn : n < pF) (h : elemL m = elemL n) : m = n := by
  have := congrArg valL h
  rwa [elemL_val m hm, elemL_val n hn] at this

/-- Whether what two rounds have left is not below p. -/
theorem not_below (m : Nat) (h : m < Mx ^ 5) : (2251799813685229 ≤ m % Mx ∧ digL 5 m = [m % Mx, 2251799813685247, 2251799813685247, 2251799813685247, 2251799813685247]) ↔ pF ≤ m := by
  rw [digL5]
  simp only [List.cons.injEq, and_true, true_and]
  unfold Mx at *
  unfold pF
  omega
theorem less_p (m : Nat) (h : m < Mx ^ 5) (hp : pF ≤ m) : [m % Mx - 2251799813685229, 0, 0, 0, 0] = elemL (m % pF) := by
  have e : m % pF = m - pF := by
    rw [Nat.mod_eq_sub_mod hp, Nat.mod_eq_of_lt]
    rw [Mx5] at h
    unfold pF at *
    omega
  unfold elemL
  rw [e, digL5]
  simp only [List.cons.injEq, and_true]
  unfold Mx at *
  unfold pF at *
  omega
theorem below_p (m : Nat) (hp : ¬ pF ≤ m) : digL 5 m = elemL (m % pF) := by
  unfold elemL
  rw [Nat.mod_eq_of_lt (by omega)]
end Go.Proofs.Ytpgjcmccfpjmoaa
