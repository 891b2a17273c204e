/-
  Words of 32 bits as plain Lean functions: turned, moved, and what the walk's Int terms come to. Conditions: none; nothing of a program is named here.
-/
import Derived.Test.YtpgjcmccfpjmoaaOctMath
import Derived.IntWalk
import Derived.Laws.BitsAllLaws
namespace Go.Proofs.Ytpgjcmccfpjmoaa

/-- A word turned right by n (1 to 31). -/
def rotr (x : UInt32) (n : Nat) : UInt32 := UInt32.ofNat (x.toNat * 2 ^ (32 - n) % 4294967296 ||| x.toNat / 2 ^ n)
/-- A word moved right by n. -/
def movr (x : UInt32) (n : Nat) : UInt32 := UInt32.ofNat (x.toNat / 2 ^ n)

theorem or_lt32 {a b : Nat} (ha : a < 4294967296) (hb : b < 4294967296) : a ||| b < 4294967296 := Nat.or_lt_two_pow (n := 32) ha hb
theorem div_lt32 (x : UInt32) (n : Nat) : x.toNat / 2 ^ n < 4294967296 := Nat.lt_of_le_of_lt (Nat.div_le_self _ _) x.toNat_lt
theorem rotr_toNat (x : UInt32) (n : Nat) : (rotr x n).toNat = (x.toNat * 2 ^ (32 - n) % 4294967296 ||| x.toNat / 2 ^ n) := by
  unfold rotr
  rw [UInt32.toNat_ofNat_of_lt']
  exact or_lt32 (Nat.mod_lt _ (by omega)) (div_lt32 x n)
theorem movr_toNat (x : UInt32) (n : Nat) : (movr x n).toNat = x.toNat / 2 ^ n := by
  unfold movr
  rw [UInt32.toNat_ofNat_of_lt']
  exact div_lt32 x n

theorem add32 (a b : UInt32) : IntKind.u32.wrap ((a.toNat : Int) + (b.toNat : Int)) = ((a + b).toNat : Int) := by
  rw [IntKind.wrap_u32, UInt32.toNat_add]
  omega
theorem xor32 (a b : UInt32) : bits .xor .u32 (a.toNat : Int) (b.toNat : Int) = ((a ^^^ b).toNat : Int) := by
  rw [u32_xor_nat _ _ a.toNat_lt b.toNat_lt, UInt32.toNat_xor]
theorem and32 (a b : UInt32) : bits .and .u32 (a.toNat : Int) (b.toNat : Int) = ((a &&& b).toNat : Int) := by
  rw [u32_and_nat _ _ a.toNat_lt b.toNat_lt, UInt32.toNat_and]
theorem or32 (a b : UInt32) : bits .or .u32 (a.toNat : Int) (b.toNat : Int) = ((a ||| b).toNat : Int) := by
  rw [u32_or_nat _ _ a.toNat_lt b.toNat_lt, UInt32.toNat_or]

/-- A word turned left by n (1 to 31). -/
def rotl (x : UInt32) (n : Nat) : UInt32 := UInt32.ofNat (x.toNat * 2 ^ n % 4294967296 ||| x.toNat / 2 ^ (32 - n))
theorem rotl_toNat (x : UInt32) (n : Nat) : (rotl x n).toNat = (x.toNat * 2 ^ n % 4294967296 ||| x.toNat / 2 ^ (32 - n)) := by
  unfold rotl
  rw [UInt32.toNat_ofNat_of_lt']
  exact or_lt32 (Nat.mod_lt _ (by omega)) (div_lt32 x (32 - n))

/-- Words, the lowest byte of each first. -/
def wordLow (l : List UInt8) (i : Nat) : UInt32 := UInt32.ofNat (ofLowB ((l.drop (4 * i)).take 4))
def bytesLow (l : List UInt32) : List UInt8 := l.flatMap fun x => lowB x.toNat 4
theorem bytesLow_length (l : List UInt32) : (bytesLow l).length = 4 * l.length := by
  induction l with
  | nil => rfl
  | cons x l ih => simp only [bytesLow, List.flatMap_cons, List.length_append, lowB_length, List.length_cons] at *; omega
end Go.Proofs.Ytpgjcmccfpjmoaa
