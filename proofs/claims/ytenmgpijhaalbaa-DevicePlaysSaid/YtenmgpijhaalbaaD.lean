/-
  Contracts of octets' and cablegramref01's functions that read numbers. Conditions: as each theorem names them.
-/
import Derived.Test.YtenmgpijhaalbaaB
namespace Go.Proofs.Ytenmgpijhaalbaa
open Go.RowKit
set_option linter.unusedVariables false
set_option maxRecDepth 20000

theorem take8 (l : List UInt8) (k : Nat) (hk : k ≤ l.length) (h8 : k ≤ 8) (h : ¬ (k < 8 ∧ k < l.length)) : l.take 8 = l.take k := by
  by_cases h1 : k = 8
  · rw [h1]
  · rw [List.take_of_length_le (by omega), List.take_of_length_le (by omega)]

theorem mul256_lt (k b : Nat) (hk : k < 8) (hb : b < 256) : 256 ^ k * b < 18446744073709551616 := by
  have h1 : 256 ^ k * b < 256 ^ k * 256 := Nat.mul_lt_mul_of_pos_left hb (Nat.pow_pos (by omega))
  have h2 := pow256_le (k + 1) (by omega)
  rw [Nat.pow_succ] at h2
  omega

theorem or_low (k q b : Nat) (hk : k < 8) (hq : q < 256 ^ k) (hb : b < 256) :
    bits .or .u64 (q : Int) (IntKind.u64.wrap ((b : Int) * 2 ^ (8 * k))) = ((q + 256 ^ k * b : Nat) : Int) := by
  have hv : ((b : Int) * 2 ^ (8 * k)) = ((256 ^ k * b : Nat) : Int) := by
    have h : (2 : Int) ^ (8 * k) = ((256 ^ k : Nat) : Int) := by
      rw [show (256 : Nat) = 2 ^ 8 from rfl, ← Nat.pow_mul]
      simp
    rw [h, Int.natCast_mul, Int.mul_comm]
  have hlt := mul256_lt k b hk hb
  have hw : IntKind.u64.wrap ((256 ^ k * b : Nat) : Int) = ((256 ^ k * b : Nat) : Int) := by
    rw [IntKind.wrap_u64]; omega
  have hq2 : q < 18446744073709551616 := Nat.lt_of_lt_of_le hq (pow256_le k (by omega))
  rw [hv, hw, u64_or_nat _ _ hq2 hlt]
  have e : 256 ^ k = 2 ^ (8 * k) := by rw [show (256 : Nat) = 2 ^ 8 from rfl, ← Nat.pow_mul]
  have := Nat.two_pow_add_eq_or_of_lt (b := q) (i := 8 * k) (by rw [← e]; exact hq) b
  rw [Nat.or_comm, e, ← this, Nat.add_comm]

theorem or_high (k q b : Nat) (hk : k < 8) (hq : q < 256 ^ k) (hb : b < 256) :
    bits .or .u64 (IntKind.u64.wrap ((q : Int) * 256)) (b : Int) = ((q * 256 + b : Nat) : Int) := by
  have h2 := pow256_le (k + 1) (by omega)
  rw [Nat.pow_succ] at h2
  have hw : IntKind.u64.wrap ((q : Int) * 256) = ((2 ^ 8 * q : Nat) : Int) := by
    rw [IntKind.wrap_u64]; omega
  have := Nat.two_pow_add_eq_or_of_lt (b := b) (i := 8) hb q
  rw [hw, u64_or_nat _ _ (by omega) (by omega), ← this]
  omega




end Go.Proofs.Ytenmgpijhaalbaa

