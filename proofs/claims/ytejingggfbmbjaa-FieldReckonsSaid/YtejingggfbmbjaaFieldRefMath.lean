/-
  Numbers modulo 2^255 - 19 by sixteen digits of sixteen bits: the document's own reckoning as plain Lean functions. Conditions: none; nothing of a program is named here.
-/
import Derived.Test.YtejingggfbmbjaaFieldLaws
namespace Go.Proofs.Ytejingggfbmbjaa
set_option linter.unusedVariables false

def Bx : Nat := 65536
theorem Bx_pos : 0 < Bx := by decide
def valR : List Nat → Nat
  | [] => 0
  | x :: l => x + Bx * valR l
def digR : Nat → Nat → List Nat
  | 0, _ => []
  | k + 1, n => n % Bx :: digR k (n / Bx)

theorem digR_length (k n : Nat) : (digR k n).length = k := by
  induction k generalizing n with
  | zero => rfl
  | succ k ih => simp [digR, ih]
theorem digR_lt (k n : Nat) : ∀ x ∈ digR k n, x < Bx := by
  induction k generalizing n with
  | zero => intro x hx; cases hx
  | succ k ih =>
    intro x hx
    rcases List.mem_cons.1 hx with rfl | hx
    · exact Nat.mod_lt _ Bx_pos
    · exact ih _ x hx
theorem dig_valR (l : List Nat) (h : ∀ x ∈ l, x < Bx) : digR l.length (valR l) = l := by
  induction l with
  | nil => rfl
  | cons x l ih =>
    have hx := h x (by simp)
    simp only [List.length_cons, digR, valR]
    rw [Nat.add_mul_mod_self_left, Nat.mod_eq_of_lt hx, Nat.add_mul_div_left _ _ Bx_pos, Nat.div_eq_of_lt hx, Nat.zero_add, ih fun y hy => h y (by simp [hy])]
theorem val_digR (k n : Nat) : valR (digR k n) = n % Bx ^ k := by
  induction k generalizing n with
  | zero => simp [digR, valR, Nat.mod_one]
  | succ k ih => rw [digR, valR, ih, Nat.pow_succ, Nat.mul_comm (Bx ^ k), Nat.mod_mul]
theorem digR_snoc (k n : Nat) : digR (k + 1) n = digR k n ++ [n / Bx ^ k % Bx] := by
  induction k generalizing n with
  | zero => simp [digR]
  | succ k ih =>
    rw [digR, ih, digR]
    simp [Nat.div_div_eq_div_mul, Nat.pow_succ, Nat.mul_comm]
theorem digR_mod (k n x : Nat) : digR k (n + Bx ^ k * x) = digR k n := by
  induction k generalizing n with
  | zero => rfl
  | succ k ih =>
    have e : n + Bx ^ (k + 1) * x = n + Bx * (Bx ^ k * x) := by rw [Nat.pow_succ, Nat.mul_comm (Bx ^ k) Bx, Nat.mul_assoc]
    rw [digR, digR, e, Nat.add_mul_mod_self_left, Nat.add_mul_div_left _ _ Bx_pos, ih]
theorem valR_append (a b : List Nat) : valR (a ++ b) = valR a + Bx ^ a.length * valR b := by
  induction a with
  | nil => simp [valR]
  | cons x a ih =>
    simp only [List.cons_append, valR, ih, List.length_cons, Nat.pow_succ]
    rw [Nat.mul_add, ← Nat.mul_assoc, Nat.mul_comm Bx (Bx ^ a.length), Nat.add_assoc]
theorem digR_inj {k m n : Nat} (hm : m < Bx ^ k) (hn : n < Bx ^ k) (h : digR k m = digR k n) : m = n := by
  have := congrArg valR h
  rwa [val_digR, val_digR, Nat.mod_eq_of_lt hm, Nat.mod_eq_of_lt hn] at this

/-- What carrying has made of the first k, and what it hands on. -/
def stR (l : List Nat) (k : Nat) : List Nat := digR k (valR (l.take k)) ++ l.drop k
def cyR (l : List Nat) (k : Nat) : Nat := valR (l.take k) / Bx ^ k
theorem stR_length (l : List Nat) (k : Nat) (h : k ≤ l.length) : (stR l k).length = l.length := by simp [stR, digR_length]; omega
theorem stR_zero (l : List Nat) : stR l 0 = l := by simp [stR, digR]
theorem cyR_zero (l : List Nat) : cyR l 0 = 0 := by simp [cyR, valR]
theorem takeR_val (l : List Nat) (k : Nat) (h : k < l.length) : valR (l.take (k + 1)) = valR (l.take k) + Bx ^ k * l.getD k 0 := by
  rw [List.take_succ_eq_append_getElem h, valR_append, List.length_take_of_le (by omega)]
  simp [valR, h]
theorem cyR_succ (l : List Nat) (k : Nat) (h : k < l.length) : cyR l (k + 1) = (l.getD k 0 + cyR l k) / Bx := by
  unfold cyR
  rw [takeR_val l k h, Nat.pow_succ, ← Nat.div_div_eq_div_mul, Nat.add_mul_div_left _ _ (Nat.pow_pos Bx_pos), Nat.add_comm]
theorem stR_get (l : List Nat) (k : Nat) (h : k < l.length) : (stR l k).getD k 0 = l.getD k 0 := by
  simp only [stR, List.getD_eq_getElem?_getD]
  rw [List.getElem?_append_right (by rw [digR_length]; exact Nat.le_refl _), digR_length, Nat.sub_self, List.getElem?_drop]
  simp
theorem stR_step (l : List Nat) (k : Nat) (h : k < l.length) : (stR l k).set k ((l.getD k 0 + cyR l k) % Bx) = stR l (k + 1) := by
  unfold stR
  rw [List.set_append_right _ _ (by rw [digR_length]; exact Nat.le_refl _), digR_length, Nat.sub_self, digR_snoc, takeR_val l k h, digR_mod, List.append_assoc]
  congr 1
  rw [List.drop_eq_getElem_cons h, List.set_cons_zero]
  have e : (valR (l.take k) + Bx ^ k * l.getD k 0) / Bx ^ k % Bx = (l.getD k 0 + cyR l k) % Bx := by
    rw [Nat.add_mul_div_left _ _ (Nat.pow_pos Bx_pos), Nat.add_comm]
    rfl
  rw [e]
  rfl
theorem cyR_lt (l : List Nat) (B : Nat) (hB : ∀ x ∈ l, x < B) (hB0 : 0 < B) (k : Nat) (h : k ≤ l.length) : Bx * cyR l k < 2 * B := by
  induction k with
  | zero => rw [cyR_zero]; omega
  | succ k ih =>
    have hx : l.getD k 0 < B := by
      have := hB (l[k]'(by omega)) (List.getElem_mem _)
      simpa [List.getD_eq_getElem?_getD, show k < l.length by omega] using this
    have h1 := ih (by omega)
    rw [cyR_succ l k (by omega)]
    have h2 := Nat.mul_div_le (l.getD k 0 + cyR l k) Bx
    have h3 : 2 * cyR l k ≤ Bx * cyR l k := Nat.mul_le_mul_right _ (by decide)
    omega


theorem Bx16 : Bx ^ 16 = 2 * pF + 38 := by decide +kernel
theorem valR_set (l : List Nat) (k x : Nat) (h : k < l.length) : valR (l.set k x) + Bx ^ k * l.getD k 0 = valR l + Bx ^ k * x := by
  induction l generalizing k with
  | nil => simp at h
  | cons a l ih =>
    cases k with
    | zero => simp [valR]; omega
    | succ k =>
      have := ih k (by simpa using h)
      simp only [List.set_cons_succ, valR, List.getD_cons_succ, Nat.pow_succ]
      rw [Nat.mul_comm (Bx ^ k) Bx, Nat.mul_assoc, Nat.mul_assoc]
      have e1 : Bx * valR (l.set k x) + Bx * (Bx ^ k * l.getD k 0) = Bx * valR l + Bx * (Bx ^ k * x) := by rw [← Nat.mul_add, this, Nat.mul_add]
      omega
theorem valR_lt (l : List Nat) (h : ∀ x ∈ l, x < Bx) : valR l < Bx ^ l.length := by
  induction l with
  | nil => simp [valR]
  | cons a l ih =>
    have h1 := h a (by simp)
    have h2 := ih fun x hx => h x (by simp [hx])
    simp only [valR, List.length_cons, Nat.pow_succ]
    have h3 : Bx * (valR l + 1) ≤ Bx * Bx ^ l.length := Nat.mul_le_mul_left _ h2
    rw [Nat.mul_comm (Bx ^ l.length), Nat.mul_add] at *
    omega
theorem valR_le (l : List Nat) (B : Nat) (h : ∀ x ∈ l, x ≤ B) : valR l * (Bx - 1) ≤ B * (Bx ^ l.length - 1) := by
  induction l with
  | nil => simp [valR]
  | cons a l ih =>
    have h1 := h a (by simp)
    have h2 := ih fun x hx => h x (by simp [hx])
    simp only [valR, List.length_cons, Nat.pow_succ]
    have hp : 0 < Bx ^ l.length := Nat.pow_pos Bx_pos
    obtain ⟨q, hq⟩ : ∃ q, Bx ^ l.length = q + 1 := ⟨Bx ^ l.length - 1, by omega⟩
    rw [hq] at h2 ⊢
    simp only [Nat.add_sub_cancel] at h2
    have e : (q + 1) * Bx - 1 = q * Bx + (Bx - 1) := by rw [Nat.add_mul, Nat.one_mul]; have := Bx_pos; omega
    rw [e]
    have h3 : a * (Bx - 1) ≤ B * (Bx - 1) := Nat.mul_le_mul_right _ h1
    have h4 : Bx * valR l * (Bx - 1) ≤ B * (q * Bx) := by
      have := Nat.mul_le_mul_left Bx h2
      rw [Nat.mul_assoc]
      refine Nat.le_trans this (Nat.le_of_eq ?_)
      rw [Nat.mul_comm q Bx, Nat.mul_left_comm]
    rw [Nat.add_mul, Nat.mul_add]
    omega

/-- What one round of the document's carrying makes: sixteen digits, and what is beyond them. -/
def overR (n : Nat) : List Nat := digR 16 n ++ [n / Bx ^ 16]
theorem overR_length (n : Nat) : (overR n).length = 17 := by simp [overR, digR_length]
def fold38 (n : Nat) : Nat := n % Bx ^ 16 + 38 * (n / Bx ^ 16)
theorem fold38_mod (n : Nat) : fold38 n % pF = n % pF := by
  have h := Nat.div_add_mod n (Bx ^ 16)
  have e : n = fold38 n + pF * (2 * (n / Bx ^ 16)) := by
    unfold fold38
    have : Bx ^ 16 * (n / Bx ^ 16) = pF * (2 * (n / Bx ^ 16)) + 38 * (n / Bx ^ 16) := by rw [Bx16, Nat.add_mul, Nat.mul_comm 2 pF, Nat.mul_assoc]
    omega
  rw [e, Nat.add_mul_mod_self_left]
  rw [← e]
/-- The list that a round begins with. -/
def headR (d : List Nat) : List Nat := (d.set 0 (d.getD 0 0 + 38 * d.getD 16 0)).set 16 0
theorem headR_length (d : List Nat) (h : d.length = 17) : (headR d).length = 17 := by simp [headR, h]
/-- One round, a digit at a time. -/
def rndR (e : List Nat) (k : Nat) : List Nat := (stR e k).set k (e.getD k 0 + cyR e k)
theorem rndR_length (e : List Nat) (h : e.length = 17) (k : Nat) (hk : k ≤ 17) : (rndR e k).length = 17 := by rw [rndR, List.length_set, stR_length e k (by omega), h]
theorem rndR_zero (e : List Nat) (h : e.length = 17) : rndR e 0 = e := by
  unfold rndR
  rw [stR_zero, cyR_zero, Nat.add_zero]
  match e, h with
  | a :: l, _ => simp
theorem rndR_get (e : List Nat) (h : e.length = 17) (k : Nat) (hk : k < 17) : (rndR e k).getD k 0 = e.getD k 0 + cyR e k := by
  have hl := stR_length e k (by omega)
  simp [rndR, List.getD_eq_getElem?_getD, hl, h, hk]
theorem rndR_next (e : List Nat) (h : e.length = 17) (k : Nat) (hk : k < 16) : (rndR e k).getD (k + 1) 0 = e.getD (k + 1) 0 := by
  unfold rndR
  simp only [List.getD_eq_getElem?_getD]
  rw [List.getElem?_set_ne (by omega), stR, List.getElem?_append_right (by rw [digR_length]; omega), digR_length, List.getElem?_drop]
  congr 2
  omega
theorem rndR_step (e : List Nat) (h : e.length = 17) (k : Nat) (hk : k < 16) : ((rndR e k).set (k + 1) (e.getD (k + 1) 0 + (e.getD k 0 + cyR e k) / 65536)).set k ((e.getD k 0 + cyR e k) % 65536) = rndR e (k + 1) := by
  unfold rndR
  rw [List.set_comm _ _ (by omega : k + 1 ≠ k), List.set_set, show (stR e k).set k ((e.getD k 0 + cyR e k) % 65536) = stR e (k + 1) from stR_step e k (by omega), cyR_succ e k (by omega)]
  rfl
theorem rndR_all (d : List Nat) (h : d.length = 17) : rndR (headR d) 16 = overR (valR (d.take 16) + 38 * d.getD 16 0) := by
  have hx : (headR d).take 16 = (d.take 16).set 0 (d.getD 0 0 + 38 * d.getD 16 0) := by
    unfold headR
    rw [List.take_set_of_le (Nat.le_refl _), List.take_set]
  have e2 : valR ((headR d).take 16) = valR (d.take 16) + 38 * d.getD 16 0 := by
    rw [hx]
    have h1 := valR_set (d.take 16) 0 (d.getD 0 0 + 38 * d.getD 16 0) (by simp; omega)
    have h2 : (d.take 16).getD 0 0 = d.getD 0 0 := by simp [List.getD_eq_getElem?_getD]
    rw [h2, Nat.pow_zero] at h1
    omega
  have hl := headR_length d h
  have hz : (headR d).getD 16 0 = 0 := by
    unfold headR
    simp [List.getD_eq_getElem?_getD, h]
  have hdr : (headR d).drop 16 = [0] := by
    rw [List.drop_eq_getElem_cons (by omega), List.drop_eq_nil_of_le (by omega)]
    have : (headR d)[16]'(by omega) = 0 := by
      rw [← hz]
      simp [List.getD_eq_getElem?_getD, hl]
    rw [this]
  rw [← e2]
  generalize headR d = E at *
  unfold rndR overR stR
  rw [hz, hdr, Nat.zero_add, List.set_append_right _ _ (by rw [digR_length]; exact Nat.le_refl _), digR_length]
  rfl
theorem overR_fold (n : Nat) : valR ((overR n).take 16) + 38 * (overR n).getD 16 0 = fold38 n := by
  have h1 : (overR n).take 16 = digR 16 n := by unfold overR; rw [List.take_left' (digR_length 16 n)]
  have h2 : (overR n).getD 16 0 = n / Bx ^ 16 := by
    unfold overR
    rw [List.getD_eq_getElem?_getD, List.getElem?_append_right (by rw [digR_length]; exact Nat.le_refl _), digR_length]
    rfl
  rw [h1, h2, val_digR]
  rfl
theorem fold38_small (x : Nat) (h : x < Bx ^ 16) : fold38 x = x := by unfold fold38; rw [Nat.mod_eq_of_lt h, Nat.div_eq_of_lt h]; omega
theorem fold38_twice (a : Nat) (h : a < Bx ^ 16 + 163208757248) : fold38 (fold38 a) < Bx ^ 16 := by
  have hT : 400000000000 < Bx ^ 16 := by decide +kernel
  rcases Nat.lt_or_ge a (Bx ^ 16) with hl | hl
  · rw [fold38_small a hl, fold38_small a hl]; exact hl
  · have e : fold38 a < 163208757286 := by
      unfold fold38
      generalize Bx ^ 16 = T at *
      have e : a = (a - T) + T * 1 := by omega
      rw [e, Nat.add_mul_mod_self_left, Nat.add_mul_div_left _ _ (by omega), Nat.mod_eq_of_lt (by omega), Nat.div_eq_of_lt (by omega)]
      omega
    rw [fold38_small _ (by omega)]
    omega
theorem four_folds (n : Nat) (h : n < Bx ^ 16 * 4294967296) : fold38 (fold38 (fold38 n)) < Bx ^ 16 ∧ fold38 (fold38 (fold38 n)) % pF = n % pF := by
  refine ⟨?_, by rw [fold38_mod, fold38_mod, fold38_mod]⟩
  have h1 : n / Bx ^ 16 < 4294967296 := Nat.div_lt_of_lt_mul h
  have h2 := Nat.mod_lt n (show 0 < Bx ^ 16 by decide +kernel)
  refine fold38_twice _ ?_
  unfold fold38
  omega
/-- The document's digits of p. -/
def primeL : List Nat := [65517, 65535, 65535, 65535, 65535, 65535, 65535, 65535, 65535, 65535, 65535, 65535, 65535, 65535, 65535, 32767, 0]
theorem primeL_length : primeL.length = 17 := rfl
theorem primeL_val : valR primeL = pF := by decide +kernel
theorem primeL_lt (k : Nat) : primeL.getD k 0 < 65536 := by
  have h : ∀ x ∈ primeL, x < 65536 := by decide
  rw [List.getD_eq_getElem?_getD]
  cases hc : primeL[k]? with
  | none => simp
  | some x => simpa using h x (List.mem_of_getElem? hc)
/-- What stands when k digits of p have been taken away: q, and whether one more is owed. -/
def lessAt (d q : List Nat) (k b : Nat) : Prop := q.length = k ∧ (∀ x ∈ q, x < 65536) ∧ b ≤ 1 ∧ valR (d.take k) + b * Bx ^ k = valR q + valR (primeL.take k)
theorem lessAt_zero (d : List Nat) : lessAt d [] 0 0 := ⟨rfl, by simp, by omega, by simp [valR]⟩
theorem lessAt_step {d q : List Nat} {k b : Nat} (hd : d.length = 17) (hk : k < 17) (hb : d.getD k 0 < 65536) (h : lessAt d q k b) :
    lessAt d (q ++ [(d.getD k 0 + 65536 - primeL.getD k 0 - b) % 65536]) (k + 1) (1 - (d.getD k 0 + 65536 - primeL.getD k 0 - b) / 65536) := by
  obtain ⟨h1, h2, h3, h4⟩ := h
  have hp := primeL_lt k
  refine ⟨by simp [h1], ?_, by omega, ?_⟩
  · intro x hx
    rcases List.mem_append.1 hx with hx | hx
    · exact h2 x hx
    · simp at hx; omega
  · rw [takeR_val d k (by omega), takeR_val primeL k (by rw [primeL_length]; omega), valR_append, h1, Nat.pow_succ]
    have e : d.getD k 0 + 65536 * (1 - (d.getD k 0 + 65536 - primeL.getD k 0 - b) / 65536) = primeL.getD k 0 + b + (d.getD k 0 + 65536 - primeL.getD k 0 - b) % 65536 := by omega
    generalize (d.getD k 0 + 65536 - primeL.getD k 0 - b) % 65536 = o at e ⊢
    generalize 1 - (d.getD k 0 + 65536 - primeL.getD k 0 - b) / 65536 = b' at e ⊢
    have e2 := congrArg (Bx ^ k * ·) e
    simp only [Nat.mul_add] at e2
    have e3 : valR [o] = o := by simp [valR]
    have e4 : b' * (Bx ^ k * Bx) = Bx ^ k * (65536 * b') := by rw [Nat.mul_comm b', Nat.mul_assoc]; rfl
    rw [e3, e4]
    have e5 : b * Bx ^ k = Bx ^ k * b := Nat.mul_comm _ _
    omega
/-- A number's seventeen digits, less p if it is not below it. -/
def lessR (n : Nat) : Nat := if pF ≤ n then n - pF else n
theorem overR_digs (n : Nat) (h : n < Bx ^ 16) : overR n = digR 17 n := by
  unfold overR
  rw [digR_snoc 16 n, Nat.div_eq_of_lt h]
  rfl
theorem less_done {n : Nat} {q : List Nat} {b : Nat} (hn : n < Bx ^ 16) (h : lessAt (digR 17 n) q 17 b) : (b = 1 ∧ lessR n = n) ∨ (b = 0 ∧ q = digR 17 (lessR n)) := by
  obtain ⟨h1, h2, h3, h4⟩ := h
  rw [List.take_of_length_le (by rw [digR_length]; omega), List.take_of_length_le (by rw [primeL_length]; omega), primeL_val, val_digR, Nat.mod_eq_of_lt (Nat.lt_trans hn (by decide +kernel))] at h4
  have hq := valR_lt q h2
  rw [h1] at hq
  have hT : pF < Bx ^ 17 := by decide +kernel
  rcases (show b = 0 ∨ b = 1 by omega) with rfl | rfl
  · refine .inr ⟨rfl, ?_⟩
    have e : lessR n = valR q := by unfold lessR; rw [if_pos (by omega)]; omega
    rw [e, ← h1, dig_valR q h2]
  · refine .inl ⟨rfl, ?_⟩
    unfold lessR
    rw [if_neg (by omega)]
theorem less_three (n : Nat) (h : n < Bx ^ 16) : lessR (lessR (lessR n)) = n % pF := by
  rw [Bx16] at h
  have hp : 38 < pF := by decide +kernel
  have hi : ∀ m, pF ≤ m → lessR m = m - pF := fun m hm => by unfold lessR; rw [if_pos hm]
  have lo : ∀ m, m < pF → lessR m = m := fun m hm => by unfold lessR; rw [if_neg (by omega)]
  rcases Nat.lt_or_ge n pF with h1 | h1
  · rw [lo n h1, lo n h1, lo n h1, Nat.mod_eq_of_lt h1]
  · rcases Nat.lt_or_ge (n - pF) pF with h2 | h2
    · rw [hi n h1, lo _ h2, lo _ h2, Nat.mod_eq_sub_mod h1, Nat.mod_eq_of_lt h2]
    · have h3 : n - pF - pF < pF := by omega
      rw [hi n h1, hi _ h2, lo _ h3, Nat.mod_eq_sub_mod h1, Nat.mod_eq_sub_mod h2, Nat.mod_eq_of_lt h3]
theorem lessR_lt (n : Nat) (h : n < Bx ^ 16) : lessR n < Bx ^ 16 := by unfold lessR; split <;> omega

/-- The rounds of carrying, one behind the other. -/
def seqR (d : List Nat) : Nat → List Nat
  | 0 => d
  | j + 1 => overR (valR ((seqR d j).take 16) + 38 * (seqR d j).getD 16 0)
theorem seqR_length (d : List Nat) (h : d.length = 17) (j : Nat) : (seqR d j).length = 17 := by
  cases j with
  | zero => exact h
  | succ j => exact overR_length _
theorem val16_lt (d : List Nat) (h : d.length = 17) (hb : ∀ x ∈ d, x < 70368744177664) : valR (d.take 16) + 38 * d.getD 16 0 < Bx ^ 16 * 4294967296 := by
  have h1 := valR_le (d.take 16) 70368744177663 (fun x hx => by have := hb x (List.mem_of_mem_take hx); omega)
  rw [List.length_take_of_le (by omega)] at h1
  have h2 : d.getD 16 0 < 70368744177664 := by
    have := hb (d[16]'(by omega)) (List.getElem_mem _)
    simpa [List.getD_eq_getElem?_getD, h] using this
  have hT : 400000000000 < Bx ^ 16 := by decide +kernel
  have hT2 : 2674012278751232 < Bx ^ 16 := by decide +kernel
  generalize Bx ^ 16 = T at *
  unfold Bx at h1
  omega
theorem over_lt (n : Nat) (h : n < Bx ^ 16 * 4294967296) : ∀ x ∈ overR n, x < 70368744177664 := by
  intro x hx
  unfold overR at hx
  rcases List.mem_append.1 hx with hx | hx
  · have := digR_lt 16 n x hx
    unfold Bx at this
    omega
  · have : n / Bx ^ 16 < 4294967296 := Nat.div_lt_of_lt_mul h
    simp at hx
    omega
theorem seqR_lt (d : List Nat) (h : d.length = 17) (hb : ∀ x ∈ d, x < 70368744177664) (j : Nat) : ∀ x ∈ seqR d j, x < 70368744177664 := by
  induction j with
  | zero => exact hb
  | succ j ih => exact over_lt _ (val16_lt _ (seqR_length d h j) ih)
theorem seqR_four (d : List Nat) (h : d.length = 17) (hb : ∀ x ∈ d, x < 70368744177664) : ∃ n, seqR d 4 = digR 17 n ∧ n < Bx ^ 16 ∧ n % pF = (valR (d.take 16) + 38 * d.getD 16 0) % pF := by
  obtain ⟨n1, hn1⟩ : ∃ n, n = valR (d.take 16) + 38 * d.getD 16 0 := ⟨_, rfl⟩
  have hlt := val16_lt d h hb
  rw [← hn1] at hlt ⊢
  have e1 : seqR d 1 = overR n1 := by rw [hn1]; rfl
  have e2 : seqR d 2 = overR (fold38 n1) := by show overR (valR ((seqR d 1).take 16) + 38 * (seqR d 1).getD 16 0) = _; rw [e1, overR_fold]
  have e3 : seqR d 3 = overR (fold38 (fold38 n1)) := by show overR (valR ((seqR d 2).take 16) + 38 * (seqR d 2).getD 16 0) = _; rw [e2, overR_fold]
  have e4 : seqR d 4 = overR (fold38 (fold38 (fold38 n1))) := by show overR (valR ((seqR d 3).take 16) + 38 * (seqR d 3).getD 16 0) = _; rw [e3, overR_fold]
  obtain ⟨h5, h6⟩ := four_folds n1 hlt
  exact ⟨_, by rw [e4, overR_digs _ h5], h5, h6⟩
theorem headR_lt (d : List Nat) (h : d.length = 17) (hb : ∀ x ∈ d, x < 70368744177664) : ∀ x ∈ headR d, x < 4503599627370496 := by
  have g : ∀ k, d.getD k 0 < 70368744177664 := fun k => by
    rw [List.getD_eq_getElem?_getD]
    cases hc : d[k]? with
    | none => simp
    | some x => simpa using hb x (List.mem_of_getElem? hc)
  intro x hx
  unfold headR at hx
  rcases List.mem_or_eq_of_mem_set hx with hx | rfl
  · rcases List.mem_or_eq_of_mem_set hx with hx | rfl
    · have := hb x hx; omega
    · have := g 0; have := g 16; omega
  · omega
end Go.Proofs.Ytejingggfbmbjaa
