/-
  Bytes and numbers as plain Lean functions: what layer 1 of the document says. Conditions: none; nothing of a program is named here.
-/
namespace Go.Proofs.Ytenmgpijhaalbaa

/-- The byte at place i of a number. -/
def byteN (n i : Nat) : UInt8 := UInt8.ofNat (n / 256 ^ i)
theorem byteN_toNat (n i : Nat) : (byteN n i).toNat = n / 256 ^ i % 256 := by
  simp [byteN, UInt8.toNat_ofNat']

/-- A number's lowest s bytes, the lowest one first. -/
def lowB (n s : Nat) : List UInt8 := (List.range s).map (byteN n)
theorem lowB_length (n s : Nat) : (lowB n s).length = s := by simp [lowB]
theorem lowB_succ (n s : Nat) : lowB n (s + 1) = lowB n s ++ [byteN n s] := by simp [lowB, List.range_succ]
theorem lowB_zero (n : Nat) : lowB n 0 = [] := rfl
theorem byteN_div (n i : Nat) : byteN (n / 256) i = byteN n (i + 1) := by
  simp [byteN, Nat.div_div_eq_div_mul, Nat.pow_succ, Nat.mul_comm]
theorem lowB_cons (n s : Nat) : lowB n (s + 1) = byteN n 0 :: lowB (n / 256) s := by
  simp only [lowB, List.range_succ_eq_map, List.map_cons, List.map_map]
  congr 1
  apply List.map_congr_left
  intro i _
  exact (byteN_div n i).symm

/-- As the call has it: none, if the size is not 1 to 8. -/
def lowI (n : Nat) (s : Int) : List UInt8 := if 1 ≤ s ∧ s ≤ 8 then lowB n s.toNat else []
def highI (n : Nat) (s : Int) : List UInt8 := (lowI n s).reverse
theorem lowI_in (n s : Nat) (h1 : 1 ≤ s) (h2 : s ≤ 8) : lowI n s = lowB n s := by
  unfold lowI
  rw [if_pos ⟨by omega, by omega⟩, Int.toNat_natCast]
theorem lowI_out (n : Nat) (s : Int) (h : s < 1 ∨ 8 < s) : lowI n s = [] := by
  unfold lowI
  rw [if_neg (by omega)]
theorem lowI_length (n : Nat) (s : Int) : (lowI n s).length ≤ 8 := by
  unfold lowI
  split
  · rw [lowB_length]; omega
  · simp

/-- The number of bytes, the lowest one first. -/
def ofLowB : List UInt8 → Nat
  | [] => 0
  | b :: l => b.toNat + 256 * ofLowB l
/-- The number of bytes, the lowest one last. -/
def ofHighB (l : List UInt8) : Nat := ofLowB l.reverse

theorem ofLowB_lt (l : List UInt8) : ofLowB l < 256 ^ l.length := by
  induction l with
  | nil => simp [ofLowB]
  | cons b l ih =>
    have := b.toNat_lt
    simp only [ofLowB, List.length_cons, Nat.pow_succ]
    omega
theorem ofLowB_append (a b : List UInt8) : ofLowB (a ++ b) = ofLowB a + 256 ^ a.length * ofLowB b := by
  induction a with
  | nil => simp [ofLowB]
  | cons x a ih =>
    simp only [List.cons_append, ofLowB, ih, List.length_cons, Nat.pow_succ]
    rw [Nat.mul_add, ← Nat.mul_assoc, Nat.mul_comm 256 (256 ^ a.length), Nat.add_assoc]
theorem ofHighB_snoc (l : List UInt8) (b : UInt8) : ofHighB (l ++ [b]) = ofHighB l * 256 + b.toNat := by
  simp [ofHighB, ofLowB]
  omega
theorem ofHighB_nil : ofHighB [] = 0 := rfl
theorem ofHighB_lt (l : List UInt8) : ofHighB l < 256 ^ l.length := by
  have := ofLowB_lt l.reverse
  rwa [List.length_reverse] at this
theorem ofLowB_snoc (l : List UInt8) (b : UInt8) : ofLowB (l ++ [b]) = ofLowB l + 256 ^ l.length * b.toNat := by
  simp [ofLowB_append, ofLowB]

theorem ofLowB_lowB (n s : Nat) : ofLowB (lowB n s) = n % 256 ^ s := by
  induction s generalizing n with
  | zero => simp [lowB, ofLowB, Nat.mod_one]
  | succ s ih =>
    rw [lowB_cons, ofLowB, ih, byteN_toNat, Nat.pow_succ, Nat.mul_comm (256 ^ s), Nat.mod_mul]
    simp

theorem pow256_le (k : Nat) (h : k ≤ 8) : 256 ^ k ≤ 18446744073709551616 := by
  have : (256 : Nat) ^ k ≤ 256 ^ 8 := Nat.pow_le_pow_right (by omega) h
  simpa using this
theorem ofLowB_u64 (l : List UInt8) (h : l.length ≤ 8) : ofLowB l < 18446744073709551616 :=
  Nat.lt_of_lt_of_le (ofLowB_lt l) (pow256_le _ h)
theorem ofHighB_u64 (l : List UInt8) (h : l.length ≤ 8) : ofHighB l < 18446744073709551616 :=
  Nat.lt_of_lt_of_le (ofHighB_lt l) (pow256_le _ h)

/-- Bytes mixed, as many as the shorter list has. -/
def xorB (a b : List UInt8) : List UInt8 := List.zipWith (· ^^^ ·) a b
theorem xorB_length (a b : List UInt8) : (xorB a b).length = min a.length b.length := by simp [xorB]
theorem xorB_get (a b : List UInt8) (k : Nat) (h : k < (xorB a b).length) (ha : k < a.length) (hb : k < b.length) : (xorB a b)[k] = a[k] ^^^ b[k] := by
  simp [xorB]

/-- The first k of l, and zeros behind them. -/
def partly (l : List UInt8) (k : Nat) : List UInt8 := l.take k ++ List.replicate (l.length - k) 0
theorem partly_length (l : List UInt8) (k : Nat) (h : k ≤ l.length) : (partly l k).length = l.length := by simp [partly]; omega
theorem partly_zero (l : List UInt8) : partly l 0 = List.replicate l.length 0 := by simp [partly]
theorem partly_all (l : List UInt8) : partly l l.length = l := by simp [partly]
theorem partly_step (l : List UInt8) (k : Nat) (h : k < l.length) : (partly l k).set k l[k] = partly l (k + 1) := by
  unfold partly
  rw [List.set_append_right _ _ (by simp; omega), List.take_succ_eq_append_getElem h, List.append_assoc]
  congr 1
  have e1 : k - (l.take k).length = 0 := by simp; omega
  have e2 : l.length - k = (l.length - (k + 1)) + 1 := by omega
  rw [e1, e2, List.replicate_succ]
  simp

/-- Zeros, and behind them the last k of l. -/
def partlyR (l : List UInt8) (k : Nat) : List UInt8 := List.replicate (l.length - k) 0 ++ l.drop (l.length - k)
theorem partlyR_zero (l : List UInt8) : partlyR l 0 = List.replicate l.length 0 := by simp [partlyR]
theorem partlyR_all (l : List UInt8) : partlyR l l.length = l := by simp [partlyR]
theorem partlyR_step (l : List UInt8) (k : Nat) (h : k < l.length) : (partlyR l k).set (l.length - 1 - k) (l[l.length - 1 - k]'(by omega)) = partlyR l (k + 1) := by
  unfold partlyR
  have e : l.length - k = (l.length - (k + 1)) + 1 := by omega
  rw [e, List.replicate_succ', List.append_assoc, List.set_append_right _ _ (by simp; omega)]
  congr 1
  have e1 : l.length - 1 - k - (List.replicate (l.length - (k + 1)) (0 : UInt8)).length = 0 := by simp; omega
  rw [e1]
  have e2 : l.length - (k + 1) = l.length - 1 - k := by omega
  rw [List.drop_eq_getElem_cons (i := l.length - (k + 1)) (by omega)]
  simp [e2]
end Go.Proofs.Ytenmgpijhaalbaa
