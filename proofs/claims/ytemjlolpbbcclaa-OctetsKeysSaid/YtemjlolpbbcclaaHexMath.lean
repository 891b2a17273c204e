/-
  Digits as plain Lean functions. Conditions: none; nothing of a program is named here.
-/
namespace Go.Proofs.Ytemjlolpbbcclaa

/-- The sixteen digits. -/
def digitsL : List UInt8 := [48, 49, 50, 51, 52, 53, 54, 55, 56, 57, 97, 98, 99, 100, 101, 102]
def hexC (n : Nat) : UInt8 := digitsL.getD n 0
def isHex (c : UInt8) : Bool := (decide (48 ≤ c.toNat) && decide (c.toNat ≤ 57)) || (decide (97 ≤ c.toNat) && decide (c.toNat ≤ 102))
def hexd (c : UInt8) : UInt8 := if 48 ≤ c.toNat ∧ c.toNat ≤ 57 then UInt8.ofNat (c.toNat - 48) else if 97 ≤ c.toNat ∧ c.toNat ≤ 102 then UInt8.ofNat (c.toNat - 87) else 0

theorem hex_dig (c : UInt8) (h1 : 48 ≤ c.toNat) (h2 : c.toNat ≤ 57) : ((hexd c).toNat : Int) = (c.toNat : Int) - 48 ∧ isHex c = true := by
  constructor
  · unfold hexd
    rw [if_pos ⟨h1, h2⟩, UInt8.toNat_ofNat_of_lt' (by simp [UInt8.size]; omega)]
    omega
  · simp [isHex, h1, h2]
theorem hex_af (c : UInt8) (h1 : 97 ≤ c.toNat) (h2 : c.toNat ≤ 102) : ((hexd c).toNat : Int) = (c.toNat : Int) - 97 + 10 ∧ isHex c = true := by
  constructor
  · unfold hexd
    rw [if_neg (by omega), if_pos ⟨h1, h2⟩, UInt8.toNat_ofNat_of_lt' (by simp [UInt8.size]; omega)]
    omega
  · simp [isHex, h1, h2]
theorem hex_none (c : UInt8) (h : c.toNat < 48 ∨ (57 < c.toNat ∧ c.toNat < 97) ∨ 102 < c.toNat) : hexd c = 0 ∧ isHex c = false := by
  constructor
  · unfold hexd
    rw [if_neg (by omega), if_neg (by omega)]
  · simp [isHex]; omega

/-- What the document's answer tells of a digit: below 0, it is none. -/
def refDig (c : UInt8) : Int := if isHex c then ((hexd c).toNat : Int) else -1

theorem digs_get (k : Nat) (h : k < (ByteArray.mk #[48, 49, 50, 51, 52, 53, 54, 55, 56, 57, 97, 98, 99, 100, 101, 102]).size) : (ByteArray.mk #[48, 49, 50, 51, 52, 53, 54, 55, 56, 57, 97, 98, 99, 100, 101, 102])[k] = hexC k := by
  have hk : k < 16 := h
  have : ∀ j : Fin 16, (ByteArray.mk #[48, 49, 50, 51, 52, 53, 54, 55, 56, 57, 97, 98, 99, 100, 101, 102])[j.1]'(by have := j.2; exact this) = hexC j.1 := by decide
  exact this ⟨k, hk⟩
theorem digs_int (n : Nat) (i : Int) (hi : i.toNat = n) (h : i.toNat < (ByteArray.mk #[48, 49, 50, 51, 52, 53, 54, 55, 56, 57, 97, 98, 99, 100, 101, 102]).size) :
    (((ByteArray.mk #[48, 49, 50, 51, 52, 53, 54, 55, 56, 57, 97, 98, 99, 100, 101, 102])[i.toNat]'h).toNat : Int) = ((hexC n).toNat : Int) := by
  rw [digs_get _ h, hi]

theorem byte_all {p : UInt8 → Prop} (h : ∀ n : Fin 256, p (UInt8.ofNat n.1)) (b : UInt8) : p b := by
  have := h ⟨b.toNat, b.toNat_lt⟩
  simpa using this

theorem hexC_is : ∀ k : Fin 16, isHex (hexC k.1) = true ∧ (hexd (hexC k.1)).toNat = k.1 := by decide
theorem hexC_ascii : ∀ k : Fin 16, (hexC k.1).toNat < 128 := by decide
theorem hexC_hexd (c : UInt8) : isHex c = true → hexC (hexd c).toNat = c ∧ (hexd c).toNat < 16 := by
  revert c
  apply byte_all
  decide +kernel
theorem refDig_hit (k : Nat) (h : k < 16) (c : UInt8) (hc : hexC k = c) : refDig c = (k : Int) := by
  subst hc
  have := hexC_is ⟨k, h⟩
  unfold refDig
  rw [if_pos this.1, this.2]
theorem refDig_miss (c : UInt8) (h : ∀ j, j < 16 → hexC j ≠ c) : refDig c = -1 := by
  unfold refDig
  rw [if_neg]
  intro hx
  have := hexC_hexd c hx
  exact h _ this.2 this.1

/-- All digits of bytes, the higher one first. -/
def hexL : List UInt8 → List UInt8
  | [] => []
  | b :: l => hexC (b.toNat / 16) :: hexC (b.toNat % 16) :: hexL l
theorem hexL_append (a b : List UInt8) : hexL (a ++ b) = hexL a ++ hexL b := by
  induction a with
  | nil => rfl
  | cons x a ih => simp [hexL, ih]
theorem hexL_length (a : List UInt8) : (hexL a).length = 2 * a.length := by
  induction a with
  | nil => rfl
  | cons x a ih => simp [hexL, ih]; omega
theorem hexL_take (l : List UInt8) (k : Nat) (h : k < l.length) : hexL (l.take (k + 1)) = hexL (l.take k) ++ [hexC (l[k].toNat / 16), hexC (l[k].toNat % 16)] := by
  rw [List.take_succ_eq_append_getElem h, hexL_append]
  rfl

/-- The bytes of digits, if they are digits. -/
def unhexL : List UInt8 → Option (List UInt8)
  | [] => some []
  | [_] => none
  | x :: y :: r => if isHex x && isHex y then (unhexL r).map (UInt8.ofNat (16 * (hexd x).toNat + (hexd y).toNat) :: ·) else none
/-- The byte of two digits. -/
def pairB (x y : UInt8) : UInt8 := UInt8.ofNat (16 * (hexd x).toNat + (hexd y).toNat)
theorem unhexL_cons (x y : UInt8) (r : List UInt8) : unhexL (x :: y :: r) = if isHex x && isHex y then (unhexL r).map (pairB x y :: ·) else none := rfl
theorem hexd_lt (c : UInt8) : (hexd c).toNat < 16 := by
  revert c
  apply byte_all
  decide +kernel
theorem pairB_toNat (x y : UInt8) : (pairB x y).toNat = 16 * (hexd x).toNat + (hexd y).toNat := by
  have h1 := hexd_lt x
  have h2 := hexd_lt y
  unfold pairB
  rw [UInt8.toNat_ofNat_of_lt' (by simp [UInt8.size]; omega)]

theorem unhexL_append (n : Nat) : ∀ a b : List UInt8, a.length = 2 * n → unhexL (a ++ b) = (unhexL a).bind fun x => (unhexL b).map (x ++ ·) := by
  induction n with
  | zero =>
    intro a b h
    have : a = [] := List.eq_nil_of_length_eq_zero (by omega)
    subst this
    simp [unhexL]
  | succ n ih =>
    intro a b h
    match a, h with
    | x :: y :: a, h =>
      have := ih a b (by simp at h; omega)
      simp only [List.cons_append, unhexL_cons, this]
      by_cases hx : (isHex x && isHex y) = true
      · simp only [hx, if_true]
        cases unhexL a <;> cases unhexL b <;> simp
      · simp [hx]
theorem unhexL_length (n : Nat) : ∀ a x : List UInt8, a.length = 2 * n → unhexL a = some x → x.length = n := by
  induction n with
  | zero =>
    intro a x h hx
    have : a = [] := List.eq_nil_of_length_eq_zero (by omega)
    subst this
    simp [unhexL] at hx
    simp [← hx]
  | succ n ih =>
    intro a x h hx
    match a, h with
    | u :: v :: a, h =>
      rw [unhexL_cons] at hx
      split at hx
      · obtain ⟨z, hz, rfl⟩ := Option.map_eq_some_iff.1 hx
        simp [ih a z (by simp at h; omega) hz]
      · cases hx
theorem unhexL_odd (n : Nat) : ∀ a : List UInt8, a.length = 2 * n + 1 → unhexL a = none := by
  induction n with
  | zero =>
    intro a h
    match a, h with
    | [x], _ => rfl
  | succ n ih =>
    intro a h
    match a, h with
    | u :: v :: a, h =>
      rw [unhexL_cons, ih a (by simp at h; omega)]
      simp

theorem take_two (l : List UInt8) (k : Nat) (h : 2 * k + 1 < l.length) : l.take (2 * (k + 1)) = l.take (2 * k) ++ [l[2 * k], l[2 * k + 1]] := by
  rw [show 2 * (k + 1) = 2 * k + 1 + 1 by omega, List.take_succ_eq_append_getElem (by omega), List.take_succ_eq_append_getElem (by omega), List.append_assoc]
  rfl
theorem unhex_step (l acc : List UInt8) (k : Nat) (h : 2 * k + 1 < l.length) (ha : unhexL (l.take (2 * k)) = some acc) (hx : isHex l[2 * k] = true) (hy : isHex l[2 * k + 1] = true) :
    unhexL (l.take (2 * (k + 1))) = some (acc ++ [pairB l[2 * k] l[2 * k + 1]]) := by
  rw [take_two l k h, unhexL_append k _ _ (by rw [List.length_take_of_le (by omega)]), ha, unhexL_cons]
  simp [hx, hy, unhexL]
theorem unhex_bad (l : List UInt8) (k : Nat) (h : 2 * k + 1 < l.length) (hx : isHex l[2 * k] = false ∨ isHex l[2 * k + 1] = false) : unhexL l = none := by
  have e : l = l.take (2 * k) ++ (l[2 * k] :: l[2 * k + 1] :: l.drop (2 * k + 2)) := by
    rw [← List.drop_eq_getElem_cons (i := 2 * k + 1) (by omega), ← List.drop_eq_getElem_cons (i := 2 * k) (by omega), List.take_append_drop]
  rw [e, unhexL_append k _ _ (by rw [List.length_take_of_le (by omega)]), unhexL_cons]
  have : (isHex l[2 * k] && isHex l[2 * k + 1]) = false := by
    rcases hx with h | h <;> simp [h]
  rw [this]
  cases unhexL (l.take (2 * k)) <;> simp

/-- Bytes, and zeros behind them, n in all. -/
def padded (acc : List UInt8) (n : Nat) : List UInt8 := acc ++ List.replicate (n - acc.length) 0
theorem padded_nil (n : Nat) : padded [] n = List.replicate n 0 := by simp [padded]
theorem padded_all (acc : List UInt8) : padded acc acc.length = acc := by simp [padded]
theorem padded_step (acc : List UInt8) (n : Nat) (b : UInt8) (h : acc.length < n) : (padded acc n).set acc.length b = padded (acc ++ [b]) n := by
  unfold padded
  rw [List.set_append_right _ _ (Nat.le_refl _)]
  have e : n - acc.length = (n - (acc ++ [b]).length) + 1 := by simp; omega
  rw [e, List.replicate_succ]
  simp

/-- What the document says of digits that are read again. -/
theorem unhex_hex (l : List UInt8) : unhexL (hexL l) = some l := by
  induction l with
  | nil => rfl
  | cons b l ih =>
    have hb := b.toNat_lt
    have h1 := hexC_is ⟨b.toNat / 16, by omega⟩
    have h2 := hexC_is ⟨b.toNat % 16, by omega⟩
    simp only [] at h1 h2
    rw [hexL, unhexL_cons, h1.1, h2.1, ih]
    simp only [Bool.and_self, if_true, Option.map_some, Option.some.injEq, List.cons.injEq, and_true]
    apply UInt8.toNat_inj.1
    rw [pairB_toNat, h1.2, h2.2]
    omega
theorem hex_unhex (n : Nat) : ∀ l x : List UInt8, l.length = 2 * n → unhexL l = some x → hexL x = l := by
  induction n with
  | zero =>
    intro l x h hx
    have : l = [] := List.eq_nil_of_length_eq_zero (by omega)
    subst this
    simp [unhexL] at hx
    subst hx
    rfl
  | succ n ih =>
    intro l x h hx
    match l, h with
    | u :: v :: l, h =>
      rw [unhexL_cons] at hx
      by_cases hc : (isHex u && isHex v) = true
      · rw [if_pos hc] at hx
        obtain ⟨z, hz, rfl⟩ := Option.map_eq_some_iff.1 hx
        rw [Bool.and_eq_true] at hc
        have h1 := hexC_hexd u hc.1
        have h2 := hexC_hexd v hc.2
        rw [hexL, ih l z (by simp at h; omega) hz, pairB_toNat, show (16 * (hexd u).toNat + (hexd v).toNat) / 16 = (hexd u).toNat by omega, show (16 * (hexd u).toNat + (hexd v).toNat) % 16 = (hexd v).toNat by omega, h1.1, h2.1]
      · rw [if_neg hc] at hx
        cases hx
end Go.Proofs.Ytemjlolpbbcclaa
