/-
  Texts that belong together, merged: FieldRefMath, FieldRefA, FieldRefB, FieldRefC. Conditions: as each theorem names them.
-/
import Derived.Test.YtpgjcmccfpjmoaaQLadAI
import Derived.Test.YtpgjcmccfpjmoaaQLadAC
section
namespace Go.Proofs.Ytpgjcmccfpjmoaa
set_option linter.unusedVariables false

def Bx : Nat := 65536
theorem Bx_pos : 0 < Bx := by decide
def valR : List Nat → Nat
  | [] => 0
  | x :: l => x + Bx * valR l
def digR : Nat → Nat → List Nat
  | 0, _ => []
  | k + 1, n => n % Bx :: digR k (n / Bx)

theorem digR_length (k n : Nat) : (digR k n).length = k := by
  induction k generalizing n with
  | zero => rfl
  | succ k ih => simp [digR, ih]
theorem digR_lt (k n : Nat) : ∀ x ∈ digR k n, x < Bx := by
  induction k generalizing n with
  | zero => intro x hx; cases hx
  | succ k ih =>
    intro x hx
    rcases List.mem_cons.1 hx with rfl | hx
    · exact Nat.mod_lt _ Bx_pos
    · exact ih _ x hx
theorem dig_valR (l : List Nat) (h : ∀ x ∈ l, x < Bx) : digR l.length (valR l) = l := by
  induction l with
  | nil => rfl
  | cons x l ih =>
    have hx := h x (by simp)
    simp only [List.length_cons, digR, valR]
    rw [Nat.add_mul_mod_self_left, Nat.mod_eq_of_lt hx, Nat.add_mul_div_left _ _ Bx_pos, Nat.div_eq_of_lt hx, Nat.zero_add, ih fun y hy => h y (by simp [hy])]
theorem val_digR (k n : Nat) : valR (digR k n) = n % Bx ^ k := by
  induction k generalizing n with
  | zero => simp [digR, valR, Nat.mod_one]
  | succ k ih => rw [digR, valR, ih, Nat.pow_succ, Nat.mul_comm (Bx ^ k), Nat.mod_mul]
theorem digR_snoc (k n : Nat) : digR (k + 1) n = digR k n ++ [n / Bx ^ k % Bx] := by
  induction k generalizing n with
  | zero => simp [digR]
  | succ k ih =>
    rw [digR, ih, digR]
    simp [Nat.div_div_eq_div_mul, Nat.pow_succ, Nat.mul_comm]
theorem digR_mod (k n x : Nat) : digR k (n + Bx ^ k * x) = digR k n := by
  induction k generalizing n with
  | zero => rfl
  | succ k ih =>
    have e : n + Bx ^ (k + 1) * x = n + Bx * (Bx ^ k * x) := by rw [Nat.pow_succ, Nat.mul_comm (Bx ^ k) Bx, Nat.mul_assoc]
    rw [digR, digR, e, Nat.add_mul_mod_self_left, Nat.add_mul_div_left _ _ Bx_pos, ih]
theorem valR_append (a b : List Nat) : valR (a ++ b) = valR a + Bx ^ a.length * valR b := by
  induction a with
  | nil => simp [valR]
  | cons x a ih =>
    simp only [List.cons_append, valR, ih, List.length_cons, Nat.pow_succ]
    rw [Nat.mul_add, ← Nat.mul_assoc, Nat.mul_comm Bx (Bx ^ a.length), Nat.add_assoc]
theorem digR_inj {k m n : Nat} (hm : m < Bx ^ k) (hn : n < Bx ^ k) (h : digR k m = digR k n) : m = n := by
  have := congrArg valR h
  rwa [val_digR, val_digR, Nat.mod_eq_of_lt hm, Nat.mod_eq_of_lt hn] at this

/-- What carrying has made of the first k, and what it hands on. -/
def stR (l : List Nat) (k : Nat) : List Nat := digR k (valR (l.take k)) ++ l.drop k
def cyR (l : List Nat) (k : Nat) : Nat := valR (l.take k) / Bx ^ k
theorem stR_length (l : List Nat) (k : Nat) (h : k ≤ l.length) : (stR l k).length = l.length := by simp [stR, digR_length]; omega
theorem stR_zero (l : List Nat) : stR l 0 = l := by simp [stR, digR]
theorem cyR_zero (l : List Nat) : cyR l 0 = 0 := by simp [cyR, valR]
theorem takeR_val (l : List Nat) (k : Nat) (h : k < l.length) : valR (l.take (k + 1)) = valR (l.take k) + Bx ^ k * l.getD k 0 := by
  rw [List.take_succ_eq_append_getElem h, valR_append, List.length_take_of_le (by omega)]
  simp [valR, h]
theorem cyR_succ (l : List Nat) (k : Nat) (h : k < l.length) : cyR l (k + 1) = (l.getD k 0 + cyR l k) / Bx := by
  unfold cyR
  rw [takeR_val l k h, Nat.pow_succ, ← Nat.div_div_eq_div_mul, Nat.add_mul_div_left _ _ (Nat.pow_pos Bx_pos), Nat.add_comm]
theorem stR_get (l : List Nat) (k : Nat) (h : k < l.length) : (stR l k).getD k 0 = l.getD k 0 := by
  simp only [stR, List.getD_eq_getElem?_getD]
  rw [List.getElem?_append_right (by rw [digR_length]; exact Nat.le_refl _), digR_length, Nat.sub_self, List.getElem?_drop]
  simp
theorem stR_step (l : List Nat) (k : Nat) (h : k < l.length) : (stR l k).set k ((l.getD k 0 + cyR l k) % Bx) = stR l (k + 1) := by
  unfold stR
  rw [List.set_append_right _ _ (by rw [digR_length]; exact Nat.le_refl _), digR_length, Nat.sub_self, digR_snoc, takeR_val l k h, digR_mod, List.append_assoc]
  congr 1
  rw [List.drop_eq_getElem_cons h, List.set_cons_zero]
  have e : (valR (l.take k) + Bx ^ k * l.getD k 0) / Bx ^ k % Bx = (l.getD k 0 + cyR l k) % Bx := by
    rw [Nat.add_mul_div_left _ _ (Nat.pow_pos Bx_pos), Nat.add_comm]
    rfl
  rw [e]
  rfl
theorem cyR_lt (l : List Nat) (B : Nat) (hB : ∀ x ∈ l, x < B) (hB0 : 0 < B) (k : Nat) (h : k ≤ l.length) : Bx * cyR l k < 2 * B := by
  induction k with
  | zero => rw [cyR_zero]; omega
  | succ k ih =>
    have hx : l.getD k 0 < B := by
      have := hB (l[k]'(by omega)) (List.getElem_mem _)
      simpa [List.getD_eq_getElem?_getD, show k < l.length by omega] using this
    have h1 := ih (by omega)
    rw [cyR_succ l k (by omega)]
    have h2 := Nat.mul_div_le (l.getD k 0 + cyR l k) Bx
    have h3 : 2 * cyR l k ≤ Bx * cyR l k := Nat.mul_le_mul_right _ (by decide)
    omega


theorem Bx16 : Bx ^ 16 = 2 * pF + 38 := by decide +kernel
theorem valR_set (l : List Nat) (k x : Nat) (h : k < l.length) : valR (l.set k x) + Bx ^ k * l.getD k 0 = valR l + Bx ^ k * x := by
  induction l generalizing k with
  | nil => simp at h
  | cons a l ih =>
    cases k with
    | zero => simp [valR]; omega
    | succ k =>
      have := ih k (by simpa using h)
      simp only [List.set_cons_succ, valR, List.getD_cons_succ, Nat.pow_succ]
      rw [Nat.mul_comm (Bx ^ k) Bx, Nat.mul_assoc, Nat.mul_assoc]
      have e1 : Bx * valR (l.set k x) + Bx * (Bx ^ k * l.getD k 0) = Bx * valR l + Bx * (Bx ^ k * x) := by rw [← Nat.mul_add, this, Nat.mul_add]
      omega
theorem valR_lt (l : List Nat) (h : ∀ x ∈ l, x < Bx) : valR l < Bx ^ l.length := by
  induction l with
  | nil => simp [valR]
  | cons a l ih =>
    have h1 := h a (by simp)
    have h2 := ih fun x hx => h x (by simp [hx])
    simp only [valR, List.length_cons, Nat.pow_succ]
    have h3 : Bx * (valR l + 1) ≤ Bx * Bx ^ l.length := Nat.mul_le_mul_left _ h2
    rw [Nat.mul_comm (Bx ^ l.length), Nat.mul_add] at *
    omega
theorem valR_le (l : List Nat) (B : Nat) (h : ∀ x ∈ l, x ≤ B) : valR l * (Bx - 1) ≤ B * (Bx ^ l.length - 1) := by
  induction l with
  | nil => simp [valR]
  | cons a l ih =>
    have h1 := h a (by simp)
    have h2 := ih fun x hx => h x (by simp [hx])
    simp only [valR, List.length_cons, Nat.pow_succ]
    have hp : 0 < Bx ^ l.length := Nat.pow_pos Bx_pos
    obtain ⟨q, hq⟩ : ∃ q, Bx ^ l.length = q + 1 := ⟨Bx ^ l.length - 1, by omega⟩
    rw [hq] at h2 ⊢
    simp only [Nat.add_sub_cancel] at h2
    have e : (q + 1) * Bx - 1 = q * Bx + (Bx - 1) := by rw [Nat.add_mul, Nat.one_mul]; have := Bx_pos; omega
    rw [e]
    have h3 : a * (Bx - 1) ≤ B * (Bx - 1) := Nat.mul_le_mul_right _ h1
    have h4 : Bx * valR l * (Bx - 1) ≤ B * (q * Bx) := by
      have := Nat.mul_le_mul_left Bx h2
      rw [Nat.mul_assoc]
      refine Nat.le_trans this (Nat.le_of_eq ?_)
      rw [Nat.mul_comm q Bx, Nat.mul_left_comm]
    rw [Nat.add_mul, Nat.mul_add]
    omega

/-- What one round of the document's carrying makes: sixteen digits, and what is beyond them. -/
def overR (n : Nat) : List Nat := digR 16 n ++ [n / Bx ^ 16]
theorem overR_length (n : Nat) : (overR n).length = 17 := by simp [overR, digR_length]
def fold38 (n : Nat) : Nat := n % Bx ^ 16 + 38 * (n / Bx ^ 16)
theorem fold38_mod (n : Nat) : fold38 n % pF = n % pF := by
  have h := Nat.div_add_mod n (Bx ^ 16)
  have e : n = fold38 n + pF * (2 * (n / Bx ^ 16)) := by
    unfold fold38
    have : Bx ^ 16 * (n / Bx ^ 16) = pF * (2 * (n / Bx ^ 16)) + 38 * (n / Bx ^ 16) := by rw [Bx16, Nat.add_mul, Nat.mul_comm 2 pF, Nat.mul_assoc]
    omega
  rw [e, Nat.add_mul_mod_self_left]
  rw [← e]
/-- The list that a round begins with. -/
def headR (d : List Nat) : List Nat := (d.set 0 (d.getD 0 0 + 38 * d.getD 16 0)).set 16 0
theorem headR_length (d : List Nat) (h : d.length = 17) : (headR d).length = 17 := by simp [headR, h]
/-- One round, a digit at a time. -/
def rndR (e : List Nat) (k : Nat) : List Nat := (stR e k).set k (e.getD k 0 + cyR e k)
theorem rndR_length (e : List Nat) (h : e.length = 17) (k : Nat) (hk : k ≤ 17) : (rndR e k).length = 17 := by rw [rndR, List.length_set, stR_length e k (by omega), h]
theorem rndR_zero (e : List Nat) (h : e.length = 17) : rndR e 0 = e := by
  unfold rndR
  rw [stR_zero, cyR_zero, Nat.add_zero]
  match e, h with
  | a :: l, _ => simp
theorem rndR_get (e : List Nat) (h : e.length = 17) (k : Nat) (hk : k < 17) : (rndR e k).getD k 0 = e.getD k 0 + cyR e k := by
  have hl := stR_length e k (by omega)
  simp [rndR, List.getD_eq_getElem?_getD, hl, h, hk]
theorem rndR_next (e : List Nat) (h : e.length = 17) (k : Nat) (hk : k < 16) : (rndR e k).getD (k + 1) 0 = e.getD (k + 1) 0 := by
  unfold rndR
  simp only [List.getD_eq_getElem?_getD]
  rw [List.getElem?_set_ne (by omega), stR, List.getElem?_append_right (by rw [digR_length]; omega), digR_length, List.getElem?_drop]
  congr 2
  omega
theorem rndR_step (e : List Nat) (h : e.length = 17) (k : Nat) (hk : k < 16) : ((rndR e k).set (k + 1) (e.getD (k + 1) 0 + (e.getD k 0 + cyR e k) / 65536)).set k ((e.getD k 0 + cyR e k) % 65536) = rndR e (k + 1) := by
  unfold rndR
  rw [List.set_comm _ _ (by omega : k + 1 ≠ k), List.set_set, show (stR e k).set k ((e.getD k 0 + cyR e k) % 65536) = stR e (k + 1) from stR_step e k (by omega), cyR_succ e k (by omega)]
  rfl
theorem rndR_all (d : List Nat) (h : d.length = 17) : rndR (headR d) 16 = overR (valR (d.take 16) + 38 * d.getD 16 0) := by
  have hx : (headR d).take 16 = (d.take 16).set 0 (d.getD 0 0 + 38 * d.getD 16 0) := by
    unfold headR
    rw [List.take_set_of_le (Nat.le_refl _), List.take_set]
  have e2 : valR ((headR d).take 16) = valR (d.take 16) + 38 * d.getD 16 0 := by
    rw [hx]
    have h1 := valR_set (d.take 16) 0 (d.getD 0 0 + 38 * d.getD 16 0) (by simp; omega)
    have h2 : (d.take 16).getD 0 0 = d.getD 0 0 := by simp [List.getD_eq_getElem?_getD]
    rw [h2, Nat.pow_zero] at h1
    omega
  have hl := headR_length d h
  have hz : (headR d).getD 16 0 = 0 := by
    unfold headR
    simp [List.getD_eq_getElem?_getD, h]
  have hdr : (headR d).drop 16 = [0] := by
    rw [List.drop_eq_getElem_cons (by omega), List.drop_eq_nil_of_le (by omega)]
    have : (headR d)[16]'(by omega) = 0 := by
      rw [← hz]
      simp [List.getD_eq_getElem?_getD, hl]
    rw [this]
  rw [← e2]
  generalize headR d = E at *
  unfold rndR overR stR
  rw [hz, hdr, Nat.zero_add, List.set_append_right _ _ (by rw [digR_length]; exact Nat.le_refl _), digR_length]
  rfl
theorem overR_fold (n : Nat) : valR ((overR n).take 16) + 38 * (overR n).getD 16 0 = fold38 n := by
  have h1 : (overR n).take 16 = digR 16 n := by unfold overR; rw [List.take_left' (digR_length 16 n)]
  have h2 : (overR n).getD 16 0 = n / Bx ^ 16 := by
    unfold overR
    rw [List.getD_eq_getElem?_getD, List.getElem?_append_right (by rw [digR_length]; exact Nat.le_refl _), digR_length]
    rfl
  rw [h1, h2, val_digR]
  rfl
theorem fold38_small (x : Nat) (h : x < Bx ^ 16) : fold38 x = x := by unfold fold38; rw [Nat.mod_eq_of_lt h, Nat.div_eq_of_lt h]; omega
theorem fold38_twice (a : Nat) (h : a < Bx ^ 16 + 163208757248) : fold38 (fold38 a) < Bx ^ 16 := by
  have hT : 400000000000 < Bx ^ 16 := by decide +kernel
  rcases Nat.lt_or_ge a (Bx ^ 16) with hl | hl
  · rw [fold38_small a hl, fold38_small a hl]; exact hl
  · have e : fold38 a < 163208757286 := by
      unfold fold38
      generalize Bx ^ 16 = T at *
      have e : a = (a - T) + T * 1 := by omega
      rw [e, Nat.add_mul_mod_self_left, Nat.add_mul_div_left _ _ (by omega), Nat.mod_eq_of_lt (by omega), Nat.div_eq_of_lt (by omega)]
      omega
    rw [fold38_small _ (by omega)]
    omega
theorem four_folds (n : Nat) (h : n < Bx ^ 16 * 4294967296) : fold38 (fold38 (fold38 n)) < Bx ^ 16 ∧ fold38 (fold38 (fold38 n)) % pF = n % pF := by
  refine ⟨?_, by rw [fold38_mod, fold38_mod, fold38_mod]⟩
  have h1 : n / Bx ^ 16 < 4294967296 := Nat.div_lt_of_lt_mul h
  have h2 := Nat.mod_lt n (show 0 < Bx ^ 16 by decide +kernel)
  refine fold38_twice _ ?_
  unfold fold38
  omega
/-- The document's digits of p. -/
def primeL : List Nat := [65517, 65535, 65535, 65535, 65535, 65535, 65535, 65535, 65535, 65535, 65535, 65535, 65535, 65535, 65535, 32767, 0]
theorem primeL_length : primeL.length = 17 := rfl
theorem primeL_val : valR primeL = pF := by decide +kernel
theorem primeL_lt (k : Nat) : primeL.getD k 0 < 65536 := by
  have h : ∀ x ∈ primeL, x < 65536 := by decide
  rw [List.getD_eq_getElem?_getD]
  cases hc : primeL[k]? with
  | none => simp
  | some x => simpa using h x (List.mem_of_getElem? hc)
/-- What stands when k digits of p have been taken away: q, and whether one more is owed. -/
def lessAt (d q : List Nat) (k b : Nat) : Prop := q.length = k ∧ (∀ x ∈ q, x < 65536) ∧ b ≤ 1 ∧ valR (d.take k) + b * Bx ^ k = valR q + valR (primeL.take k)
theorem lessAt_zero (d : List Nat) : lessAt d [] 0 0 := ⟨rfl, by simp, by omega, by simp [valR]⟩
theorem lessAt_step {d q : List Nat} {k b : Nat} (hd : d.length = 17) (hk : k < 17) (hb : d.getD k 0 < 65536) (h : lessAt d q k b) :
    lessAt d (q ++ [(d.getD k 0 + 65536 - primeL.getD k 0 - b) % 65536]) (k + 1) (1 - (d.getD k 0 + 65536 - primeL.getD k 0 - b) / 65536) := by
  obtain ⟨h1, h2, h3, h4⟩ := h
  have hp := primeL_lt k
  refine ⟨by simp [h1], ?_, by omega, ?_⟩
  · intro x hx
    rcases List.mem_append.1 hx with hx | hx
    · exact h2 x hx
    · simp at hx; omega
  · rw [takeR_val d k (by omega), takeR_val primeL k (by rw [primeL_length]; omega), valR_append, h1, Nat.pow_succ]
    have e : d.getD k 0 + 65536 * (1 - (d.getD k 0 + 65536 - primeL.getD k 0 - b) / 65536) = primeL.getD k 0 + b + (d.getD k 0 + 65536 - primeL.getD k 0 - b) % 65536 := by omega
    generalize (d.getD k 0 + 65536 - primeL.getD k 0 - b) % 65536 = o at e ⊢
    generalize 1 - (d.getD k 0 + 65536 - primeL.getD k 0 - b) / 65536 = b' at e ⊢
    have e2 := congrArg (Bx ^ k * ·) e
    simp only [Nat.mul_add] at e2
    have e3 : valR [o] = o := by simp [valR]
    have e4 : b' * (Bx ^ k * Bx) = Bx ^ k * (65536 * b') := by rw [Nat.mul_comm b', Nat.mul_assoc]; rfl
    rw [e3, e4]
    have e5 : b * Bx ^ k = Bx ^ k * b := Nat.mul_comm _ _
    omega
/-- A number's seventeen digits, less p if it is not below it. -/
def lessR (n : Nat) : Nat := if pF ≤ n then n - pF else n
theorem overR_digs (n : Nat) (h : n < Bx ^ 16) : overR n = digR 17 n := by
  unfold overR
  rw [digR_snoc 16 n, Nat.div_eq_of_lt h]
  rfl
theorem less_done {n : Nat} {q : List Nat} {b : Nat} (hn : n < Bx ^ 16) (h : lessAt (digR 17 n) q 17 b) : (b = 1 ∧ lessR n = n) ∨ (b = 0 ∧ q = digR 17 (lessR n)) := by
  obtain ⟨h1, h2, h3, h4⟩ := h
  rw [List.take_of_length_le (by rw [digR_length]; omega), List.take_of_length_le (by rw [primeL_length]; omega), primeL_val, val_digR, Nat.mod_eq_of_lt (Nat.lt_trans hn (by decide +kernel))] at h4
  have hq := valR_lt q h2
  rw [h1] at hq
  have hT : pF < Bx ^ 17 := by decide +kernel
  rcases (show b = 0 ∨ b = 1 by omega) with rfl | rfl
  · refine .inr ⟨rfl, ?_⟩
    have e : lessR n = valR q := by unfold lessR; rw [if_pos (by omega)]; omega
    rw [e, ← h1, dig_valR q h2]
  · refine .inl ⟨rfl, ?_⟩
    unfold lessR
    rw [if_neg (by omega)]
theorem less_three (n : Nat) (h : n < Bx ^ 16) : lessR (lessR (lessR n)) = n % pF := by
  rw [Bx16] at h
  have hp : 38 < pF := by decide +kernel
  have hi : ∀ m, pF ≤ m → lessR m = m - pF := fun m hm => by unfold lessR; rw [if_pos hm]
  have lo : ∀ m, m < pF → lessR m = m := fun m hm => by unfold lessR; rw [if_neg (by omega)]
  rcases Nat.lt_or_ge n pF with h1 | h1
  · rw [lo n h1, lo n h1, lo n h1, Nat.mod_eq_of_lt h1]
  · rcases Nat.lt_or_ge (n - pF) pF with h2 | h2
    · rw [hi n h1, lo _ h2, lo _ h2, Nat.mod_eq_sub_mod h1, Nat.mod_eq_of_lt h2]
    · have h3 : n - pF - pF < pF := by omega
      rw [hi n h1, hi _ h2, lo _ h3, Nat.mod_eq_sub_mod h1, Nat.mod_eq_sub_mod h2, Nat.mod_eq_of_lt h3]
theorem lessR_lt (n : Nat) (h : n < Bx ^ 16) : lessR n < Bx ^ 16 := by unfold lessR; split <;> omega

/-- The rounds of carrying, one behind the other. -/
def seqR (d : List Nat) : Nat → List Nat
  | 0 => d
  | j + 1 => overR (valR ((seqR d j).take 16) + 38 * (seqR d j).getD 16 0)
theorem seqR_length (d : List Nat) (h : d.length = 17) (j : Nat) : (seqR d j).length = 17 := by
  cases j with
  | zero => exact h
  | succ j => exact overR_length _
theorem val16_lt (d : List Nat) (h : d.length = 17) (hb : ∀ x ∈ d, x < 70368744177664) : valR (d.take 16) + 38 * d.getD 16 0 < Bx ^ 16 * 4294967296 := by
  have h1 := valR_le (d.take 16) 70368744177663 (fun x hx => by have := hb x (List.mem_of_mem_take hx); omega)
  rw [List.length_take_of_le (by omega)] at h1
  have h2 : d.getD 16 0 < 70368744177664 := by
    have := hb (d[16]'(by omega)) (List.getElem_mem _)
    simpa [List.getD_eq_getElem?_getD, h] using this
  have hT : 400000000000 < Bx ^ 16 := by decide +kernel
  have hT2 : 2674012278751232 < Bx ^ 16 := by decide +kernel
  generalize Bx ^ 16 = T at *
  unfold Bx at h1
  omega
theorem over_lt (n : Nat) (h : n < Bx ^ 16 * 4294967296) : ∀ x ∈ overR n, x < 70368744177664 := by
  intro x hx
  unfold overR at hx
  rcases List.mem_append.1 hx with hx | hx
  · have := digR_lt 16 n x hx
    unfold Bx at this
    omega
  · have : n / Bx ^ 16 < 4294967296 := Nat.div_lt_of_lt_mul h
    simp at hx
    omega
theorem seqR_lt (d : List Nat) (h : d.length = 17) (hb : ∀ x ∈ d, x < 70368744177664) (j : Nat) : ∀ x ∈ seqR d j, x < 70368744177664 := by
  induction j with
  | zero => exact hb
  | succ j ih => exact over_lt _ (val16_lt _ (seqR_length d h j) ih)
theorem seqR_four (d : List Nat) (h : d.length = 17) (hb : ∀ x ∈ d, x < 70368744177664) : ∃ n, seqR d 4 = digR 17 n ∧ n < Bx ^ 16 ∧ n % pF = (valR (d.take 16) + 38 * d.getD 16 0) % pF := by
  obtain ⟨n1, hn1⟩ : ∃ n, n = valR (d.take 16) + 38 * d.getD 16 0 := ⟨_, rfl⟩
  have hlt := val16_lt d h hb
  rw [← hn1] at hlt ⊢
  have e1 : seqR d 1 = overR n1 := by rw [hn1]; rfl
  have e2 : seqR d 2 = overR (fold38 n1) := by show overR (valR ((seqR d 1).take 16) + 38 * (seqR d 1).getD 16 0) = _; rw [e1, overR_fold]
  have e3 : seqR d 3 = overR (fold38 (fold38 n1)) := by show overR (valR ((seqR d 2).take 16) + 38 * (seqR d 2).getD 16 0) = _; rw [e2, overR_fold]
  have e4 : seqR d 4 = overR (fold38 (fold38 (fold38 n1))) := by show overR (valR ((seqR d 3).take 16) + 38 * (seqR d 3).getD 16 0) = _; rw [e3, overR_fold]
  obtain ⟨h5, h6⟩ := four_folds n1 hlt
  exact ⟨_, by rw [e4, overR_digs _ h5], h5, h6⟩
theorem headR_lt (d : List Nat) (h : d.length = 17) (hb : ∀ x ∈ d, x < 70368744177664) : ∀ x ∈ headR d, x < 4503599627370496 := by
  have g : ∀ k, d.getD k 0 < 70368744177664 := fun k => by
    rw [List.getD_eq_getElem?_getD]
    cases hc : d[k]? with
    | none => simp
    | some x => simpa using hb x (List.mem_of_getElem? hc)
  intro x hx
  unfold headR at hx
  rcases List.mem_or_eq_of_mem_set hx with hx | rfl
  · rcases List.mem_or_eq_of_mem_set hx with hx | rfl
    · have := hb x hx; omega
    · have := g 0; have := g 16; omega
  · omega
end Go.Proofs.Ytpgjcmccfpjmoaa
end
section
namespace Go.Proofs.Ytpgjcmccfpjmoaa
open Go.RowKit
set_option linter.unusedVariables false
set_option maxRecDepth 20000

theorem Try.sz17 : (Try.prog.info? 88).map (·.size) = some 17 := by kernel_rfl
def zero17 : List Nat := List.replicate 17 0
theorem zero17_length : zero17.length = 17 := by simp [zero17]
theorem Try.zero17 : (Try.prog.info? 88).map (·.zero) = some (some (.agg (natsC zero17))) := by kernel_rfl

theorem prime_any (k : Nat) (hk : k < 17) (w : World) : Calls Try.prog 48 #[.int .i64 (k : Int)] w fun e w' => e = .returned (.int .u64 ((primeL.getD k 0 : Nat) : Int)) ∧ w = w' := by
  by_cases h0 : k = 0
  · subst h0
    go_enter Try.func48, Try.ntmps48
    go_wp2
    go_ret
    exact ⟨rfl, rfl⟩
  · by_cases h15 : k = 15
    · subst h15
      go_enter Try.func48, Try.ntmps48
      go_wp2
      go_ret
      exact ⟨rfl, rfl⟩
    · by_cases h16 : k = 16
      · subst h16
        go_enter Try.func48, Try.ntmps48
        go_wp2
        go_ret
        exact ⟨rfl, rfl⟩
      · have hv : primeL.getD k 0 = 65535 := by
          have : ∀ k, k < 17 → k ≠ 0 → k ≠ 15 → k ≠ 16 → primeL.getD k 0 = 65535 := by decide
          exact this k hk h0 h15 h16
        have b0 : ((k : Int) == 0) = false := by simp; omega
        have b15 : ((k : Int) == 15) = false := by simp; omega
        have b16 : ((k : Int) == 16) = false := by simp; omega
        rw [hv]
        clear hv h0 h15 h16
        go_enter Try.func48, Try.ntmps48
        go_wp2
        go_ret
        exact ⟨rfl, rfl⟩

set_option maxHeartbeats 2000000 in
theorem less_any (n : Nat) (hn : n < Bx ^ 16) (w : World) : Calls Try.prog 64 #[.agg (natsC (digR 17 n))] w (RetV w (.agg (natsC (digR 17 (lessR n))))) := by
  have HD := Lib.hid (fun (q : List Nat) (b : Nat) (h : lessAt (digR 17 n) q 17 b) => less_done hn h)
  have HL : Hid ((digR 17 (lessR n)).length = 17) := digR_length 17 _
  obtain ⟨d, hd⟩ : ∃ d, d = digR 17 n := ⟨_, rfl⟩
  have hdl : d.length = 17 := by rw [hd, digR_length]
  have hdb : ∀ k, d.getD k 0 < 65536 := fun k => getD_lt (by rw [hd]; exact digR_lt 17 n) (by decide) k
  have HN : Hid (lessR n = n → digR 17 (lessR n) = d) := fun h => by rw [h, hd]
  rw [← hd] at HD ⊢
  have HDL := Lib.hid hdl
  have HDB := Lib.hid hdb
  clear hn hd hdl hdb
  have E0 := Env.start w
  go_enter Try.func64, Try.ntmps64
  go_wp2_with (first
    | ((with_reducible refine wpE_box (o := ⟨some 1, _, _, _, _, _⟩) rfl 88 (.tmp 0) rfl (natsC (d)) (by with_unfolding_all rfl) E0 ?_); intro g1 w1 E1)
    | ((with_reducible refine wpE_alloc (o := ⟨some 2, _, _, _, _, _⟩) rfl 88 rfl (natsC (zero17)) Try.zero17 E1 ?_); intro g2 w2 E2)
    | (with_reducible refine wpE_load (o := ⟨some 7, _, _, _, _, _⟩) rfl 88 (.tmp 1) rfl 1 g1 88 (natsC (d)) _ (by with_unfolding_all rfl) (by with_unfolding_all rfl) Try.underlying88 rfl (sizeN Try.sz17 _ HDL.out) E2 ?_)
    | ((with_reducible refine wpE_alloc (o := ⟨some 3, _, _, _, _, _⟩) rfl 88 rfl (natsC (zero17)) Try.zero17 E2 ?_); intro g3 w3 E3)
    | ((with_reducible refine wpE_store (o := ⟨none, _, _, _, _, _⟩) rfl 88 (.tmp 3) (.tmp 7) rfl 0 g3 88 (natsC (zero17)) (natsC (d)) (by with_unfolding_all rfl) (by with_unfolding_all rfl) (by with_unfolding_all rfl) (natsC_same zero17_length HDL.out) (sizeN Try.sz17 _ HDL.out) (natsC_one _) E3 ?_); intro w4 E4; simp only [List.set_cons_zero] at E4))
  have E5 := Lib.hid E4
  clear E0 E1 E2 E3 E4
  go_loopw [4, 5] (fun c i wr => ∃ (k b : Nat) (q : List Nat), k ≤ 17 ∧ i = .int .i64 k ∧ c = .int .u64 (b : Int) ∧ lessAt d q k b ∧ Env w [(g3, 88, natsC (q ++ d.drop k)), (g2, 88, natsC zero17), (g1, 88, natsC d)] wr) (fun _ i _ => 17 - (intOf i).toNat)
  case atStart => exact ⟨0, 0, [], by omega, rfl, rfl, lessAt_zero d, E5.out⟩
  case round =>
    clear E5
    obtain ⟨k, b, q, hk, rfl, rfl, hat, hE⟩ := hrel
    have E := Lib.hid hE
    have AT := Lib.hid hat
    have hb1 := hat.2.2.1
    clear hE hat
    by_cases hlt : k < 17
    · have hst := lessAt_step HDL.out hlt (HDB.out k) AT.out
      have PR := Lib.hid (fun w => prime_any k hlt w)
      have hx := HDB.out k
      have hp := primeL_lt k
      obtain ⟨x, hx2⟩ : ∃ x, x = d.getD k 0 := ⟨_, rfl⟩
      obtain ⟨p, hp2⟩ : ∃ x, x = primeL.getD k 0 := ⟨_, rfl⟩
      rw [← hx2, ← hp2] at hst
      rw [← hx2] at hx
      rw [← hp2] at hp PR
      have HX := Lib.hid hx2
      clear hx2 hp2
      obtain ⟨s1, hs1⟩ : ∃ x, x = d.getD k 0 + 65536 := ⟨_, rfl⟩
      rw [← HX.out] at hs1
      obtain ⟨s2, hs2⟩ : ∃ x, x = s1 - p := ⟨_, rfl⟩
      obtain ⟨s3, hs3⟩ : ∃ x, x = s2 - b := ⟨_, rfl⟩
      have a1 : IntKind.u64.wrap ((x : Int) + 65536) = (s1 : Int) := by rw [IntKind.wrap_u64]; omega
      have a2 : IntKind.u64.wrap ((s1 : Int) - (p : Int)) = (s2 : Int) := by rw [IntKind.wrap_u64]; omega
      have a3 : IntKind.u64.wrap ((s2 : Int) - (b : Int)) = (s3 : Int) := by rw [IntKind.wrap_u64]; omega
      rw [← hs1, ← hs2, ← hs3] at hst
      have hs3b : s3 < 131072 := by omega
      obtain ⟨r, hr⟩ : ∃ x, x = s3 % 65536 := ⟨_, rfl⟩
      obtain ⟨u, hu⟩ : ∃ x, x = s3 / 65536 := ⟨_, rfl⟩
      obtain ⟨b', hb'⟩ : ∃ x, x = 1 - u := ⟨_, rfl⟩
      have d1 : (s3 : Int) % 65536 = (r : Int) := by omega
      have d2 : (s3 : Int) / 65536 = (u : Int) := by omega
      have d3 : IntKind.u64.wrap (1 - (u : Int)) = (b' : Int) := by rw [IntKind.wrap_u64]; omega
      rw [← hr, ← hu, ← hb'] at hst
      have HST := Lib.hid hst
      have hql := AT.out.1
      have hset : (q ++ d.drop k).set k r = q ++ [r] ++ d.drop (k + 1) := by
        rw [List.set_append_right _ _ (by omega), hql, Nat.sub_self, List.drop_eq_getElem_cons (by rw [HDL.out]; exact hlt), List.set_cons_zero, List.append_assoc]
        rfl
      have HSET := Lib.hid hset
      have HQL : Hid ((q ++ d.drop k).length = 17) := by show _ = _; rw [List.length_append, List.length_drop, hql, HDL.out]; omega
      have hk5 : (k : Int) < 17 := by omega
      clear hs1 hs2 hs3 hr hu hb' hst hset hql
      go_wp2_with fail
      refine region_class _ E.out.drew (by kernel_rfl) (by kernel_rfl) ?_
      refine q_run (by rfl) (v := .int .i64 (k : Int)) (fun W _ => by go_simp) ?_
      simp only [Act.put, List.setIfInBounds_toArray, List.set_cons_zero, List.set_cons_succ]
      refine q_run (by rfl) (v := .pointer (some ⟨g1, k, none⟩)) (fun W _ => by go_simp) ?_
      simp only [Act.put, List.setIfInBounds_toArray, List.set_cons_zero, List.set_cons_succ]
      refine q_run (by rfl) (v := .int .u64 (x : Int)) (fun W hW => by have hc := hW.getN 2 rfl k (by rw [HDL.out]; exact hlt); rw [← HX.out] at hc; clear hW; go_simp) ?_
      simp only [Act.put, List.setIfInBounds_toArray, List.set_cons_zero, List.set_cons_succ]
      refine q_run (by rfl) (v := .int .u64 (s1 : Int)) (fun W _ => by go_simp) ?_
      simp only [Act.put, List.setIfInBounds_toArray, List.set_cons_zero, List.set_cons_succ]
      refine q_run (by rfl) (v := .int .i64 (k : Int)) (fun W _ => by go_simp) ?_
      simp only [Act.put, List.setIfInBounds_toArray, List.set_cons_zero, List.set_cons_succ]
      refine q_call (by rfl) 48 _ (fun W => by go_simp) (fun W hW => hW.callsQ (PR.out W)) ?_
      simp only [Act.put, List.setIfInBounds_toArray, List.set_cons_zero, List.set_cons_succ]
      refine q_run (by rfl) (v := .int .u64 (s2 : Int)) (fun W _ => by go_simp) ?_
      simp only [Act.put, List.setIfInBounds_toArray, List.set_cons_zero, List.set_cons_succ]
      refine q_run (by rfl) (v := .int .u64 (b : Int)) (fun W _ => by go_simp) ?_
      simp only [Act.put, List.setIfInBounds_toArray, List.set_cons_zero, List.set_cons_succ]
      refine q_run (by rfl) (v := .int .u64 (s3 : Int)) (fun W _ => by go_simp) ?_
      simp only [Act.put, List.setIfInBounds_toArray, List.set_cons_zero, List.set_cons_succ]
      refine q_run (by rfl) (v := .int .u64 (s3 : Int)) (fun W _ => by go_simp) ?_
      simp only [Act.put, List.setIfInBounds_toArray, List.set_cons_zero, List.set_cons_succ]
      refine wpQuiet_nil ?_
      intro w6 E6
      have c1 := E6.getN 0 rfl k (by rw [HQL.out]; exact hlt)
      have f1 := E6.fzN 0 rfl k
      generalize (q ++ d.drop k).getD k 0 = old at c1
      have E7 := E6.cellN 0 rfl k r
      simp only [List.set_cons_zero] at E7
      rw [HSET.out] at E7
      have HE := Lib.hid E7
      clear E7 E6 a1 a2 a3
      go_wp2
      go_roundw
      case rel => exact ⟨k + 1, b', q ++ [r], by omega, by go_num, rfl, HST.out, HE.out⟩
      case measure => simp [intOf]; omega
    · have hk17 : k = 17 := by omega
      have E2 := E.out
      have A2 := AT.out
      rw [hk17] at A2
      rw [hk17, List.drop_eq_nil_of_le (by rw [HDL.out]; omega), List.append_nil] at E2
      have E3 := Lib.hid E2
      have hql : Hid (q.length = 17) := A2.1
      rcases HD.out q b A2 with ⟨rfl, h⟩ | ⟨rfl, h⟩
      · have HF := Lib.hid (HN.out h)
        clear h A2 E2 E hk17
        go_wp2_with (first
          | (with_reducible refine wpE_load (o := ⟨some 30, _, _, _, _, _⟩) rfl 88 (.tmp 1) rfl 2 g1 88 (natsC (d)) _ (by with_unfolding_all rfl) (by with_unfolding_all rfl) Try.underlying88 rfl (sizeN Try.sz17 _ HDL.out) E3.out ?_)
          | ((with_reducible refine wpE_store (o := ⟨none, _, _, _, _, _⟩) rfl 88 (.tmp 2) (.tmp 30) rfl 1 g2 88 (natsC (zero17)) (natsC (d)) (by with_unfolding_all rfl) (by with_unfolding_all rfl) (by with_unfolding_all rfl) (natsC_same zero17_length HDL.out) (sizeN Try.sz17 _ HDL.out) (natsC_one _) E3.out ?_); intro w9 E9; simp only [List.set_cons_zero, List.set_cons_succ] at E9))
        rw [HF.out]
        exact bodyPost_ret (results_cell_row rfl _ _ g2 88 (natsC (d)) (0, 0) _ rfl (E9.row 1 rfl) Try.underlying88 rfl (sizeN Try.sz17 _ HDL.out)) rfl (E9.ret _)
      · have HF := Lib.hid h
        clear h A2 E2 E hk17
        go_wp2_with (first
          | (with_reducible refine wpE_load (o := ⟨some 31, _, _, _, _, _⟩) rfl 88 (.tmp 3) rfl 0 g3 88 (natsC (q)) _ (by with_unfolding_all rfl) (by with_unfolding_all rfl) Try.underlying88 rfl (sizeN Try.sz17 _ hql.out) E3.out ?_)
          | ((with_reducible refine wpE_store (o := ⟨none, _, _, _, _, _⟩) rfl 88 (.tmp 2) (.tmp 31) rfl 1 g2 88 (natsC (zero17)) (natsC (q)) (by with_unfolding_all rfl) (by with_unfolding_all rfl) (by with_unfolding_all rfl) (natsC_same zero17_length hql.out) (sizeN Try.sz17 _ hql.out) (natsC_one _) E3.out ?_); intro w9 E9; simp only [List.set_cons_zero, List.set_cons_succ] at E9))
        rw [← HF.out]
        exact bodyPost_ret (results_cell_row rfl _ _ g2 88 (natsC (q)) (0, 0) _ rfl (E9.row 1 rfl) Try.underlying88 rfl (sizeN Try.sz17 _ hql.out)) rfl (E9.ret _)
end Go.Proofs.Ytpgjcmccfpjmoaa
end
section
namespace Go.Proofs.Ytpgjcmccfpjmoaa
open Go.RowKit
set_option linter.unusedVariables false
set_option maxRecDepth 20000

theorem Try.sz16 : (Try.prog.info? 51).map (·.size) = some 16 := by kernel_rfl
def zero16 : List Nat := List.replicate 16 0
theorem zero16_length : zero16.length = 16 := by simp [zero16]
theorem Try.zero16 : (Try.prog.info? 51).map (·.zero) = some (some (.agg (natsC zero16))) := by kernel_rfl
theorem zero16V : Value.agg #[.int .u64 0, .int .u64 0, .int .u64 0, .int .u64 0, .int .u64 0, .int .u64 0, .int .u64 0, .int .u64 0, .int .u64 0, .int .u64 0, .int .u64 0, .int .u64 0, .int .u64 0, .int .u64 0, .int .u64 0, .int .u64 0] = .agg (natsC zero16) := rfl
theorem getD_set_other (l : List Nat) (i u j : Nat) (h : i ≠ j) : (l.set i u).getD j 0 = l.getD j 0 := by
  simp only [List.getD_eq_getElem?_getD]
  rw [List.getElem?_set_ne h]
def lessSeq (n : Nat) : Nat → Nat
  | 0 => n
  | j + 1 => lessR (lessSeq n j)
theorem lessSeq_lt (n : Nat) (h : n < Bx ^ 16) (j : Nat) : lessSeq n j < Bx ^ 16 := by
  induction j with
  | zero => exact h
  | succ j ih => exact lessR_lt _ ih

set_option maxHeartbeats 4000000 in
theorem least_any (d : List Nat) (hd : d.length = 17) (hb : ∀ x ∈ d, x < 70368744177664) (w : World) :
    Calls Try.prog 47 #[.agg (natsC d)] w (RetV w (.agg (natsC (digR 16 ((valR (d.take 16) + 38 * d.getD 16 0) % pF))))) := by
  obtain ⟨n, hn1, hn2, hn3⟩ := seqR_four d hd hb
  have hfin : lessSeq n 3 = (valR (d.take 16) + 38 * d.getD 16 0) % pF := by rw [← hn3]; exact less_three n hn2
  have HLE : Hid (∀ j w, Calls Try.prog 64 #[.agg (natsC (digR 17 (lessSeq n j)))] w (RetV w (.agg (natsC (digR 17 (lessSeq n (j + 1))))))) := fun j w => less_any (lessSeq n j) (lessSeq_lt n hn2 j) w
  have HLN : Hid (∀ j, (digR 17 (lessSeq n j)).length = 17) := fun j => digR_length 17 _
  have HTK : Hid ((digR 17 (lessSeq n 3)).take 16 = digR 16 (lessSeq n 3)) := by
    show _ = _
    rw [digR_snoc 16, List.take_left' (digR_length 16 _)]
  rw [← hfin]
  have HF : Hid (seqR d 4 = digR 17 (lessSeq n 0)) := hn1
  have HL := Lib.hid (fun j => seqR_length d hd j)
  have HB := Lib.hid (fun j => seqR_lt d hd hb j)
  have HS : Hid (∀ j, rndR (headR (seqR d j)) 16 = seqR d (j + 1)) := fun j => rndR_all (seqR d j) (seqR_length d hd j)
  have HD := Lib.hid hd
  clear hn1 hn2 hn3 hfin hd hb
  have E0 := Env.start w
  go_enter Try.func47, Try.ntmps47
  go_wp2_with (first
    | ((with_reducible refine wpE_box (o := ⟨some 1, _, _, _, _, _⟩) rfl 88 (.tmp 0) rfl (natsC (d)) (by with_unfolding_all rfl) E0 ?_); intro g1 w1 E1)
    | ((with_reducible refine wpE_alloc (o := ⟨some 2, _, _, _, _, _⟩) rfl 51 rfl (natsC (zero16)) Try.zero16 E1 ?_); intro g2 w2 E2))
  try simp only [Act.put, List.setIfInBounds_toArray, List.set_cons_zero, List.set_cons_succ]
  have E3 := Lib.hid E2
  clear E0 E1 E2
  go_loopw [3] (fun i wr => ∃ j : Nat, j ≤ 4 ∧ i = .int .i64 j ∧ Env w [(g2, 51, natsC zero16), (g1, 88, natsC (seqR d j))] wr) (fun i _ => 4 - (intOf i).toNat)
  case atStart => exact ⟨0, by omega, rfl, E3.out⟩
  case round =>
    clear E3
    obtain ⟨j, hj, rfl, hE⟩ := hrel
    have E := Lib.hid hE
    clear hE
    by_cases hlt : j < 4
    · have hl := HL.out j
      have hbj := HB.out j
      have hs := HS.out j
      obtain ⟨L, hLe⟩ : ∃ L, L = seqR d j := ⟨_, rfl⟩
      rw [← hLe] at hl hbj hs
      have E4 := E.out
      rw [← hLe] at E4
      have g0 := getD_lt hbj (by omega) 0
      have g16 := getD_lt hbj (by omega) 16
      have hhl := headR_length L hl
      have hhb := headR_lt L hl hbj
      have hhd : headR L = (L.set 0 (L.getD 0 0 + 38 * L.getD 16 0)).set 16 0 := rfl
      have c0 := E4.getN 1 rfl 0 (by rw [hl]; omega)
      have f0 := E4.fzN 1 rfl 0
      have c16 := E4.getN 1 rfl 16 (by rw [hl]; omega)
      generalize L.getD 0 0 = x0 at c0 g0 hhd
      generalize L.getD 16 0 = x16 at c16 g16 hhd
      obtain ⟨m, hm⟩ : ∃ m, m = 38 * x16 := ⟨_, rfl⟩
      obtain ⟨s, hs0⟩ : ∃ s, s = x0 + m := ⟨_, rfl⟩
      have a0 : IntKind.u64.wrap (38 * (x16 : Int)) = (m : Int) := by rw [IntKind.wrap_u64]; omega
      have a00 : 38 * (x16 : Int) = (m : Int) := by omega
      have a1 : IntKind.u64.wrap ((x0 : Int) + (m : Int)) = (s : Int) := by rw [IntKind.wrap_u64]; omega
      have a11 : (x0 : Int) + (m : Int) = (s : Int) := by omega
      have hsb : s < 18446744073709551616 := by omega
      have hj5 : (j : Int) < 4 := by omega
      rw [← hm, ← hs0] at hhd
      have E5 := E4.cellN 1 rfl 0 s
      simp only [List.set_cons_zero, List.set_cons_succ] at E5
      have f16 := E5.fzN 1 rfl 16
      have c161 := E5.getN 1 rfl 16 (by rw [List.length_set, hl]; omega)
      generalize (L.set 0 s).getD 16 0 = y16 at c161
      have E6 := E5.cellN 1 rfl 16 0
      simp only [List.set_cons_zero, List.set_cons_succ] at E6
      rw [← hhd, ← rndR_zero (headR L) hhl] at E6
      have HE := Lib.hid E6
      have HSJ := Lib.hid hs
      have HHL := Lib.hid hhl
      have HHB := Lib.hid hhb
      clear hm hs0 hhd E4 E5 E6 hs hhl hhb hl hbj g0 g16 E hLe
      go_wp2
      go_loopw [4] (fun i wr => ∃ k : Nat, k ≤ 16 ∧ i = .int .i64 k ∧ Env w [(g2, 51, natsC zero16), (g1, 88, natsC (rndR (headR L) k))] wr) (fun i _ => 16 - (intOf i).toNat)
      case atStart => exact ⟨0, by omega, rfl, HE.out⟩
      case round =>
        clear HE c0 f0 c16 f16 c161 a0 a00 a1 a11
        obtain ⟨k, hk, rfl, hE⟩ := hrel
        have E := Lib.hid hE
        clear hE
        by_cases hlk : k < 16
        · have c1 := E.out.getN 1 rfl k (by rw [rndR_length _ HHL.out k (by omega)]; omega)
          have c2 := E.out.getN 1 rfl (k + 1) (by rw [rndR_length _ HHL.out k (by omega)]; omega)
          rw [rndR_get _ HHL.out k (by omega)] at c1
          rw [rndR_next _ HHL.out k hlk] at c2
          have f1 := E.out.fzN 1 rfl k
          have f2 := E.out.fzN 1 rfl (k + 1)
          have hst := rndR_step (headR L) HHL.out k hlk
          have b1 := getD_lt HHB.out (by omega) k
          have b2 := getD_lt HHB.out (by omega) (k + 1)
          have b3 := cyR_lt (headR L) _ HHB.out (by omega) k (by rw [HHL.out]; omega)
          generalize (headR L).getD (k + 1) 0 = y at c2 b2 hst
          obtain ⟨x, hx⟩ : ∃ x, x = (headR L).getD k 0 + cyR (headR L) k := ⟨_, rfl⟩
          have hxb : x < 18014398509481984 := by rw [hx]; unfold Bx at b3; omega
          rw [← hx] at c1 hst
          obtain ⟨u, hu⟩ : ∃ u, u = x / 65536 := ⟨_, rfl⟩
          obtain ⟨s, hs⟩ : ∃ s, s = y + u := ⟨_, rfl⟩
          obtain ⟨r, hr⟩ : ∃ r, r = x % 65536 := ⟨_, rfl⟩
          have d1 : (x : Int) / 65536 = (u : Int) := by omega
          have d2 : (x : Int) % 65536 = (r : Int) := by omega
          have a1 : IntKind.u64.wrap ((y : Int) + (u : Int)) = (s : Int) := by rw [IntKind.wrap_u64]; omega
          have a2 : IntKind.u64.wrap (u : Int) = (u : Int) := wrap64 u (by omega)
          have hw1 : IntKind.i64.wrap ((k : Int) + 1) = (k : Int) + 1 := IntWalk.i64_in _ (by omega)
          have hq0 : 0 ≤ (k : Int) + 1 := by omega
          have hq1 : ((k : Int) + 1).toNat = k + 1 := by omega
          have hq2 : (k : Int) + 1 < 17 := by omega
          have hq3 : (k : Int) < 17 := by omega
          rw [← hu, ← hr, ← hs] at hst
          have E4 := E.out.drew.cellN 1 rfl (k + 1) s
          simp only [List.set_cons_zero, List.set_cons_succ] at E4
          have c3 := E4.getN 1 rfl k (by rw [List.length_set, rndR_length _ HHL.out k (by omega)]; omega)
          have f3 := E4.fzN 1 rfl k
          rw [show ((rndR (headR L) k).set (k + 1) s).getD k 0 = x from (getD_set_other _ _ _ _ (Nat.ne_of_gt (Nat.lt_succ_self _))).trans ((rndR_get _ HHL.out k (by omega)).trans hx.symm)] at c3
          have E5 := E4.cellN 1 rfl k r
          simp only [List.set_cons_zero, List.set_cons_succ] at E5
          rw [hst] at E5
          have HE := Lib.hid E5
          clear hx hu hs hr hst b3 E4 E5 E b1 b2
          go_wp2_with fail
          go_still_tail 12, (by kernel_rfl)
          change wpList _ _ _ _ _ wr.drew
          have c4 : wr.drew.cell? ⟨g1, k + 1, none⟩ = some (.int .u64 (y : Int)) := c2
          have f4 : wr.drew.frozen? ⟨g1, k + 1, none⟩ = false := f2
          clear c2 f2 a1 a2 d1 hw1 c3 f3
          go_wp2
          go_roundw
          case rel => exact ⟨k + 1, by omega, by go_num, HE.out⟩
          case measure => simp [intOf]; omega
        · have hk16 : k = 16 := by omega
          have E4 := E.out
          rw [hk16, HSJ.out] at E4
          have HE := Lib.hid E4
          clear E4 E hk16
          go_wp2
          go_roundw
          case rel => exact ⟨j + 1, by omega, by go_num, HE.out⟩
          case measure => simp [intOf]; omega
    · have hj4 : j = 4 := by omega
      have E4 := E.out
      rw [hj4, HF.out] at E4
      have HE := Lib.hid E4
      clear E4 E hj4
      go_wp2
      go_loopw [5] (fun i wr => ∃ k : Nat, k ≤ 3 ∧ i = .int .i64 k ∧ Env w [(g2, 51, natsC zero16), (g1, 88, natsC (digR 17 (lessSeq n k)))] wr) (fun i _ => 3 - (intOf i).toNat)
      case atStart => exact ⟨0, by omega, rfl, HE.out⟩
      case round =>
        clear HE
        obtain ⟨k, hk, rfl, hE⟩ := hrel
        have E := Lib.hid hE
        clear hE
        by_cases hlk : k < 3
        · go_wp2_with (first
            | (with_reducible refine wpE_load (o := ⟨some 46, _, _, _, _, _⟩) rfl 88 (.tmp 1) rfl 1 g1 88 (natsC (digR 17 (lessSeq n k))) _ (by with_unfolding_all rfl) (by with_unfolding_all rfl) Try.underlying88 rfl (sizeN Try.sz17 _ (HLN.out k)) E.out ?_)
            | ((with_reducible refine (HLE.out k _).mono ?_); rintro e w6 ⟨rfl, b6⟩; have E7 := Lib.hid (E.out.call b6); clear b6)
            | ((with_reducible refine wpE_store (o := ⟨none, _, _, _, _, _⟩) rfl 88 (.tmp 1) (.tmp 47) rfl 1 g1 88 (natsC (digR 17 (lessSeq n k))) (natsC (digR 17 (lessSeq n (k + 1)))) (by with_unfolding_all rfl) (by with_unfolding_all rfl) (by with_unfolding_all rfl) (natsC_same (HLN.out k) (HLN.out (k + 1))) (sizeN Try.sz17 _ (HLN.out (k + 1))) (natsC_one _) E7.out ?_); intro w8 E8; simp only [List.set_cons_zero, List.set_cons_succ] at E8))
          have HE := Lib.hid E8
          clear E8
          go_roundw
          case rel => exact ⟨k + 1, by omega, by go_num, HE.out⟩
          case measure => simp [intOf]; omega
        · have hk3 : k = 3 := by omega
          have E4 := E.out
          rw [hk3] at E4
          have HE := Lib.hid E4
          clear E4 E hk3
          go_wp2_with (first
            | ((with_reducible refine wpE_alloc (o := ⟨some 6, _, _, _, _, _⟩) rfl 51 rfl (natsC (zero16)) Try.zero16 HE.out ?_); intro g3 w5 E5)
            | ((with_reducible refine wpE_store (o := ⟨none, _, _, _, _, _⟩) rfl 51 (.tmp 6) (.tmp 48) rfl 0 g3 51 (natsC (zero16)) (natsC (zero16)) (by with_unfolding_all rfl) (by with_unfolding_all rfl) (by with_unfolding_all exact zero16V) (natsC_same zero16_length zero16_length) (sizeN Try.sz16 _ zero16_length) (natsC_one _) E5 ?_); intro w6 E6; simp only [List.set_cons_zero] at E6))
          have E7 := Lib.hid E6
          have HZL : Hid (((digR 17 (lessSeq n 3)).take 16).length = 16) := by show _ = _; rw [HTK.out, digR_length]
          clear E5 E6 HE
          go_loopw [7] (fun i wr => ∃ k : Nat, k ≤ 16 ∧ i = .int .i64 k ∧ Env w [(g3, 51, natsC (stP ((digR 17 (lessSeq n 3)).take 16) zero16 k)), (g2, 51, natsC zero16), (g1, 88, natsC (digR 17 (lessSeq n 3)))] wr) (fun i _ => 16 - (intOf i).toNat)
          case atStart => exact ⟨0, by omega, rfl, by rw [stP_zero]; exact E7.out⟩
          case round =>
            clear E7
            obtain ⟨k, hk, rfl, hE⟩ := hrel
            have E := Lib.hid hE
            clear hE
            by_cases hl16 : k < 16
            · have c1 := E.out.getN 2 rfl k (by rw [HLN.out]; omega)
              have c2 := E.out.getN 0 rfl k (by rw [stP_length _ _ HZL.out zero16_length k hk]; omega)
              have f2 := E.out.fzN 0 rfl k
              have hst := stP_step ((digR 17 (lessSeq n 3)).take 16) zero16 HZL.out zero16_length k hl16
              have hg : ((digR 17 (lessSeq n 3)).take 16).getD k 0 = (digR 17 (lessSeq n 3)).getD k 0 := by
                simp only [List.getD_eq_getElem?_getD]
                rw [List.getElem?_take_of_lt hl16]
              rw [hg] at hst
              generalize (stP ((digR 17 (lessSeq n 3)).take 16) zero16 k).getD k 0 = old at c2
              have E4 := E.out.cellN 0 rfl k ((digR 17 (lessSeq n 3)).getD k 0)
              simp only [List.set_cons_zero] at E4
              rw [hst] at E4
              have HE := Lib.hid E4
              generalize (digR 17 (lessSeq n 3)).getD k 0 = x at c1 HE
              have hq3 : (k : Int) < 17 := by omega
              have hq4 : (k : Int) < 16 := by omega
              clear hst hg E4 E
              go_wp2
              go_roundw
              case rel => exact ⟨k + 1, by omega, by go_num, HE.out⟩
              case measure => simp [intOf]; omega
            · have hk16 : k = 16 := by omega
              have E4 := E.out
              rw [hk16, stP_all _ _ HZL.out zero16_length, HTK.out] at E4
              have HE := Lib.hid E4
              have HFL : Hid ((digR 16 (lessSeq n 3)).length = 16) := digR_length 16 _
              clear E4 E hk16
              go_wp2_with (first
                | (with_reducible refine wpE_load (o := ⟨some 58, _, _, _, _, _⟩) rfl 51 (.tmp 6) rfl 0 g3 51 (natsC (digR 16 (lessSeq n 3))) _ (by with_unfolding_all rfl) (by with_unfolding_all rfl) Try.underlying51 rfl (sizeN Try.sz16 _ HFL.out) HE.out ?_)
                | ((with_reducible refine wpE_store (o := ⟨none, _, _, _, _, _⟩) rfl 51 (.tmp 2) (.tmp 58) rfl 1 g2 51 (natsC (zero16)) (natsC (digR 16 (lessSeq n 3))) (by with_unfolding_all rfl) (by with_unfolding_all rfl) (by with_unfolding_all rfl) (natsC_same zero16_length HFL.out) (sizeN Try.sz16 _ HFL.out) (natsC_one _) HE.out ?_); intro w9 E9; simp only [List.set_cons_zero, List.set_cons_succ] at E9))
              exact bodyPost_ret (results_cell_row rfl _ _ g2 51 (natsC (digR 16 (lessSeq n 3))) (0, 0) _ rfl (E9.row 1 rfl) Try.underlying51 rfl (sizeN Try.sz16 _ HFL.out)) rfl (E9.ret _)
end Go.Proofs.Ytpgjcmccfpjmoaa
end
section
namespace Go.Proofs.Ytpgjcmccfpjmoaa
open Go.RowKit
set_option linter.unusedVariables false
set_option maxRecDepth 20000

theorem zero17V : Value.agg #[.int .u64 0, .int .u64 0, .int .u64 0, .int .u64 0, .int .u64 0, .int .u64 0, .int .u64 0, .int .u64 0, .int .u64 0, .int .u64 0, .int .u64 0, .int .u64 0, .int .u64 0, .int .u64 0, .int .u64 0, .int .u64 0, .int .u64 0] = .agg (natsC zero17) := rfl
theorem Try.sz32n : (Try.prog.info? 91).map (·.size) = some 32 := by kernel_rfl
def zero32n : List Nat := List.replicate 32 0
theorem zero32n_length : zero32n.length = 32 := by simp [zero32n]
theorem Try.zero32n : (Try.prog.info? 91).map (·.zero) = some (some (.agg (natsC zero32n))) := by kernel_rfl
theorem pF_lt16 : pF < Bx ^ 16 := by decide +kernel
theorem dig_val16 (a : Nat) (h : a < pF) : valR (digR 16 a) = a := by rw [val_digR, Nat.mod_eq_of_lt (Nat.lt_trans h pF_lt16)]
theorem digD_lt (a k : Nat) : (digR 16 a).getD k 0 < 65536 := getD_lt (digR_lt 16 a) (by decide) k
theorem addR_val : ∀ (x y : List Nat), x.length = y.length → valR (addL x y) = valR x + valR y
  | [], [], _ => rfl
  | a :: x, b :: y, h => by
    have ih := addR_val x y (by simpa using h)
    simp only [addL, List.zipWith_cons_cons, valR] at *
    rw [ih, Nat.mul_add]
    omega
/-- Sixteen digits, and none beyond them. -/
theorem with0_val (z : List Nat) (h : z.length = 16) : valR ((z ++ [0]).take 16) + 38 * (z ++ [0]).getD 16 0 = valR z := by
  rw [List.take_left' h]
  have : (z ++ [0]).getD 16 0 = 0 := by
    rw [List.getD_eq_getElem?_getD, List.getElem?_append_right (by omega), h]
    rfl
  rw [this, Nat.mul_zero, Nat.add_zero]
theorem with0_get (z : List Nat) (h : z.length = 16) (k : Nat) (hk : k < 16) : (z ++ [0]).getD k 0 = z.getD k 0 := by
  simp only [List.getD_eq_getElem?_getD]
  rw [List.getElem?_append_left (by omega)]
theorem stP_with0 (z : List Nat) (h : z.length = 16) : stP (z ++ [0]) zero17 16 = z ++ [0] := by
  unfold stP
  rw [List.take_left' h]
  rfl
theorem with0_lt (z : List Nat) (B : Nat) (h : ∀ x ∈ z, x < B) (hB : 0 < B) : ∀ x ∈ z ++ [0], x < B := by
  intro x hx
  rcases List.mem_append.1 hx with hx | hx
  · exact h x hx
  · simp at hx; omega

set_option maxHeartbeats 2000000 in
theorem refAdd_any (a b : Nat) (ha : a < pF) (hb : b < pF) (w : World) :
    Calls Try.prog 29 #[.agg (natsC (digR 16 a)), .agg (natsC (digR 16 b))] w (RetV w (.agg (natsC (digR 16 ((a + b) % pF))))) := by
  obtain ⟨x, hx⟩ : ∃ x, x = digR 16 a := ⟨_, rfl⟩
  obtain ⟨y, hy⟩ : ∃ y, y = digR 16 b := ⟨_, rfl⟩
  obtain ⟨z, hz⟩ : ∃ z, z = addL x y := ⟨_, rfl⟩
  have hxl : x.length = 16 := by rw [hx, digR_length]
  have hyl : y.length = 16 := by rw [hy, digR_length]
  have hzl : z.length = 16 := by rw [hz, addL_length hxl hyl]
  have hzg : ∀ k, k < 16 → z.getD k 0 = x.getD k 0 + y.getD k 0 := fun k hk => by rw [hz, addL_get hxl hyl k hk]
  have hxb : ∀ k, x.getD k 0 < 65536 := fun k => by rw [hx]; exact digD_lt a k
  have hyb : ∀ k, y.getD k 0 < 65536 := fun k => by rw [hy]; exact digD_lt b k
  have hzb := with0_lt z 70368744177664 (getD_of_mem hzl fun k hk => by have := hxb k; have := hyb k; rw [hzg k hk]; omega) (by omega)
  have LE := Lib.hid (fun w => least_any (z ++ [0]) (by simp [hzl]) hzb w)
  rw [with0_val z hzl, hz, addR_val x y (by omega), hx, hy, dig_val16 a ha, dig_val16 b hb] at LE
  rw [← hx, ← hy, ← hz] at LE
  rw [← hx, ← hy]
  have HXL := Lib.hid hxl
  have HYL := Lib.hid hyl
  have HZL := Lib.hid hzl
  have HZG := Lib.hid hzg
  have HXB := Lib.hid hxb
  have HYB := Lib.hid hyb
  have HZ17 : Hid ((z ++ [0]).length = 17) := by show _ = _; simp [hzl]
  have HR : Hid ((digR 16 ((a + b) % pF)).length = 16) := digR_length 16 _
  generalize digR 16 ((a + b) % pF) = res at LE HR ⊢
  clear hx hy hz hxl hyl hzl hzg hxb hyb hzb
  have E0 := Env.start w
  go_enter Try.func29, Try.ntmps29
  go_wp2_with (first
    | ((with_reducible refine wpE_box (o := ⟨some 2, _, _, _, _, _⟩) rfl 51 (.tmp 0) rfl (natsC (x)) (by with_unfolding_all rfl) E0 ?_); intro g1 w1 E1)
    | ((with_reducible refine wpE_box (o := ⟨some 3, _, _, _, _, _⟩) rfl 51 (.tmp 1) rfl (natsC (y)) (by with_unfolding_all rfl) E1 ?_); intro g2 w2 E2)
    | ((with_reducible refine wpE_alloc (o := ⟨some 4, _, _, _, _, _⟩) rfl 51 rfl (natsC (zero16)) Try.zero16 E2 ?_); intro g3 w3 E3)
    | ((with_reducible refine wpE_alloc (o := ⟨some 5, _, _, _, _, _⟩) rfl 88 rfl (natsC (zero17)) Try.zero17 E3 ?_); intro g4 w4 E4)
    | ((with_reducible refine wpE_store (o := ⟨none, _, _, _, _, _⟩) rfl 88 (.tmp 5) (.tmp 7) rfl 0 g4 88 (natsC (zero17)) (natsC (zero17)) (by with_unfolding_all rfl) (by with_unfolding_all rfl) (by with_unfolding_all exact zero17V) (natsC_same zero17_length zero17_length) (sizeN Try.sz17 _ zero17_length) (natsC_one _) E4 ?_); intro w5 E5; simp only [List.set_cons_zero] at E5))
  have E6 := Lib.hid E5
  clear E0 E1 E2 E3 E4 E5
  go_loopw [6] (fun i wr => ∃ k : Nat, k ≤ 16 ∧ i = .int .i64 k ∧ Env w [(g4, 88, natsC (stP (z ++ [0]) zero17 k)), (g3, 51, natsC zero16), (g2, 51, natsC y), (g1, 51, natsC x)] wr) (fun i _ => 16 - (intOf i).toNat)
  case atStart => exact ⟨0, by omega, rfl, by rw [stP_zero]; exact E6.out⟩
  case round =>
    clear E6
    obtain ⟨k, hk, rfl, hE⟩ := hrel
    have E := Lib.hid hE
    clear hE
    by_cases hlt : k < 16
    · have c1 := E.out.getN 3 rfl k (by rw [HXL.out]; exact hlt)
      have c2 := E.out.getN 2 rfl k (by rw [HYL.out]; exact hlt)
      have c3 := E.out.getN 0 rfl k (by rw [stP_length _ _ HZ17.out zero17_length k (by omega)]; omega)
      have f3 := E.out.fzN 0 rfl k
      have hst := stP_step (z ++ [0]) zero17 HZ17.out zero17_length k (by omega)
      rw [with0_get z HZL.out k hlt, HZG.out k hlt] at hst
      have b1 := HXB.out k
      have b2 := HYB.out k
      generalize x.getD k 0 = xv at c1 b1 hst
      generalize y.getD k 0 = yv at c2 b2 hst
      generalize (stP (z ++ [0]) zero17 k).getD k 0 = old at c3
      obtain ⟨s, hs⟩ : ∃ s, s = xv + yv := ⟨_, rfl⟩
      have a1 : IntKind.u64.wrap ((xv : Int) + (yv : Int)) = (s : Int) := by rw [IntKind.wrap_u64]; omega
      rw [← hs] at hst
      have E4 := E.out.drew.cellN 0 rfl k s
      simp only [List.set_cons_zero] at E4
      rw [hst] at E4
      have HE := Lib.hid E4
      have hk5 : (k : Int) < 16 := by omega
      have hk6 : (k : Int) < 17 := by omega
      clear hs hst E4 E
      go_wp2_with fail
      go_still_tail 9, (by kernel_rfl)
      change wpList _ _ _ _ _ wr.drew
      have c4 : wr.drew.cell? ⟨g4, k, none⟩ = some (.int .u64 (old : Int)) := c3
      have f4 : wr.drew.frozen? ⟨g4, k, none⟩ = false := f3
      clear c1 c2 c3 f3 a1
      go_wp2
      go_roundw
      case rel => exact ⟨k + 1, by omega, by go_num, HE.out⟩
      case measure => simp [intOf]; omega
    · have hk16 : k = 16 := by omega
      have E4 := E.out
      rw [hk16, stP_with0 z HZL.out] at E4
      have HE := Lib.hid E4
      clear E4 E hk16
      go_wp2_with (first
        | (with_reducible refine wpE_load (o := ⟨some 21, _, _, _, _, _⟩) rfl 88 (.tmp 5) rfl 0 g4 88 (natsC (z ++ [0])) _ (by with_unfolding_all rfl) (by with_unfolding_all rfl) Try.underlying88 rfl (sizeN Try.sz17 _ HZ17.out) HE.out ?_)
        | ((with_reducible refine (LE.out _).mono ?_); rintro e w6 ⟨rfl, b6⟩; have E7 := HE.out.call b6)
        | ((with_reducible refine wpE_store (o := ⟨none, _, _, _, _, _⟩) rfl 51 (.tmp 4) (.tmp 22) rfl 1 g3 51 (natsC (zero16)) (natsC (res)) (by with_unfolding_all rfl) (by with_unfolding_all rfl) (by with_unfolding_all rfl) (natsC_same zero16_length HR.out) (sizeN Try.sz16 _ HR.out) (natsC_one _) E7 ?_); intro w9 E9; simp only [List.set_cons_zero, List.set_cons_succ] at E9))
      exact bodyPost_ret (results_cell_row rfl _ _ g3 51 (natsC (res)) (0, 0) _ rfl (E9.row 1 rfl) Try.underlying51 rfl (sizeN Try.sz16 _ HR.out)) rfl (E9.ret _)

theorem small16 (n : Nat) (hn : n < 18446744073709551616) : [n % 65536, n / 65536 % 65536, n / 4294967296 % 65536, n / 281474976710656, 0, 0, 0, 0, 0, 0, 0, 0, 0, 0, 0, 0] = digR 16 n := by
  simp only [digR, List.cons.injEq, and_true]
  unfold Bx
  omega
theorem small16V (a b c d : Nat) : Value.agg #[.int .u64 (a : Int), .int .u64 (b : Int), .int .u64 (c : Int), .int .u64 (d : Int), .int .u64 0, .int .u64 0, .int .u64 0, .int .u64 0, .int .u64 0, .int .u64 0, .int .u64 0, .int .u64 0, .int .u64 0, .int .u64 0, .int .u64 0, .int .u64 0] = .agg (natsC [a, b, c, d, 0, 0, 0, 0, 0, 0, 0, 0, 0, 0, 0, 0]) := rfl
theorem small16_length (a b c d : Nat) : [a, b, c, d, 0, 0, 0, 0, 0, 0, 0, 0, 0, 0, 0, 0].length = 16 := rfl
set_option maxHeartbeats 1000000 in
theorem refSmall_any (n : Nat) (hn : n < 18446744073709551616) (w : World) :
    Calls Try.prog 28 #[.int .u64 (n : Int)] w (RetV w (.agg (natsC (digR 16 n)))) := by
  have he := small16 n hn
  obtain ⟨a, ha⟩ : ∃ a, a = n % 65536 := ⟨_, rfl⟩
  obtain ⟨q, hq⟩ : ∃ a, a = n / 65536 := ⟨_, rfl⟩
  obtain ⟨b, hb⟩ : ∃ a, a = n / 65536 % 65536 := ⟨_, rfl⟩
  obtain ⟨r, hr⟩ : ∃ a, a = n / 4294967296 := ⟨_, rfl⟩
  obtain ⟨c, hc⟩ : ∃ a, a = n / 4294967296 % 65536 := ⟨_, rfl⟩
  obtain ⟨d, hd⟩ : ∃ a, a = n / 281474976710656 := ⟨_, rfl⟩
  have h1 : (n : Int) % 65536 = (a : Int) := by omega
  have h2 : (n : Int) / 65536 = (q : Int) := by omega
  have h3 : (q : Int) % 65536 = (b : Int) := by omega
  have h4 : (n : Int) / 4294967296 = (r : Int) := by omega
  have h5 : (r : Int) % 65536 = (c : Int) := by omega
  have h6 : (n : Int) / 281474976710656 = (d : Int) := by omega
  have w1 : IntKind.u64.wrap (q : Int) = (q : Int) := wrap64 q (by omega)
  have w2 : IntKind.u64.wrap (r : Int) = (r : Int) := wrap64 r (by omega)
  have w3 : IntKind.u64.wrap (d : Int) = (d : Int) := wrap64 d (by omega)
  rw [← ha, ← hb, ← hc, ← hd] at he
  rw [← he]
  clear ha hq hb hr hc hd he hn
  have E0 := Env.start w
  go_enter Try.func28, Try.ntmps28
  go_wp2_with (first
    | ((with_reducible refine wpE_alloc (o := ⟨some 2, _, _, _, _, _⟩) rfl 51 rfl (natsC (zero16)) Try.zero16 E0 ?_); intro g1 w1 E1)
    | ((with_reducible refine wpE_store (o := ⟨none, _, _, _, _, _⟩) rfl 51 (.tmp 2) (.tmp 13) rfl 0 g1 51 (natsC (zero16)) (natsC ([a, b, c, d, 0, 0, 0, 0, 0, 0, 0, 0, 0, 0, 0, 0])) (by with_unfolding_all rfl) (by with_unfolding_all rfl) (by with_unfolding_all exact small16V a b c d) (natsC_same zero16_length (small16_length a b c d)) (sizeN Try.sz16 _ (small16_length a b c d)) (natsC_one _) E1 ?_); intro w9 E9; simp only [List.set_cons_zero] at E9))
  exact bodyPost_ret (results_cell_row rfl _ _ g1 51 (natsC ([a, b, c, d, 0, 0, 0, 0, 0, 0, 0, 0, 0, 0, 0, 0])) (0, 0) _ rfl (E9.row 0 rfl) Try.underlying51 rfl (sizeN Try.sz16 _ (small16_length a b c d))) rfl (E9.ret _)
end Go.Proofs.Ytpgjcmccfpjmoaa
end
