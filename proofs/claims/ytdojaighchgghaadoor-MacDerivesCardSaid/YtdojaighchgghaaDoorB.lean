/-
  Contracts of octets' small functions. Conditions: as each theorem names them.
-/
import Derived.Test.YtdojaighchgghaaDoorChecked
import Derived.Test.YtdojaighchgghaaDoorMem
import Derived.Test.YtdojaighchgghaaDoorOctMath
import Derived.WalkKit
import Derived.LoopTactic
import Derived.RegionTactic
import Derived.Deep.QuietTactic
import Derived.BigQuiet
import Derived.Outline
import Derived.WalkSpells
import Derived.WalkLawsBesides
namespace Go.Proofs.YtdojaighchgghaaDoor
open Go.RowKit
set_option linter.unusedVariables false

theorem fits_yes (w : World) (n : Int) (h1 : 1 ≤ n) (h2 : n ≤ 8) :
    Calls Tryd.prog 61 #[.int .i64 n] w fun e w' => e = .returned (.bool true) ∧ w = w' := by
  go_enter Tryd.func61, Tryd.ntmps61
  go_wp2
  go_ret
  exact ⟨rfl, rfl⟩

theorem fits_no (w : World) (n : Int) (h : n < 1 ∨ 8 < n) :
    Calls Tryd.prog 61 #[.int .i64 n] w fun e w' => e = .returned (.bool false) ∧ w = w' := by
  rcases h with h | h
  · have h1 : decide ((1 : Int) ≤ n) = false := by simp; omega
    go_enter Tryd.func61, Tryd.ntmps61
    go_wp2
    go_ret
    exact ⟨rfl, rfl⟩
  · have h0 : (1 : Int) ≤ n := by omega
    have h1 : decide (n ≤ (8 : Int)) = false := by simp; omega
    go_enter Tryd.func61, Tryd.ntmps61
    go_wp2
    go_ret
    exact ⟨rfl, rfl⟩

theorem byteN_int (n i : Nat) : (n : Int) / 2 ^ (8 * i) % 256 = ((byteN n i).toNat : Int) := by
  have h : (2 : Int) ^ (8 * i) = ((256 ^ i : Nat) : Int) := by
    rw [show (256 : Nat) = 2 ^ 8 from rfl, ← Nat.pow_mul]
    simp
  rw [byteN_toNat, h]
  omega

theorem byteAt_any (w : World) (n i : Nat) (hn : n < 18446744073709551616) (hi : i ≤ 7) :
    Calls Tryd.prog 62 #[.int .u64 (n : Int), .int .i64 (i : Int)] w fun e w' => e = .returned (.int .u8 ((byteN n i).toNat : Int)) ∧ w = w' := by
  go_enter Tryd.func62, Tryd.ntmps62
  go_wp2
  go_ret
  exact ⟨ret_int (byteN_int n i), rfl⟩

theorem at_in (w : World) (va : Value) (a : List UInt8) (ha : Bs w va a) (i : Nat) (hi : i < a.length) :
    Calls Tryd.prog 81 #[va, .int .i64 (i : Int)] w fun e w' => e = .returned (.int .u8 (a[i].toNat : Int)) ∧ w = w' := by
  obtain ⟨A, ca, rfl, ha1, ha2, ha3⟩ := ha
  unfold maxLen at ha2
  obtain ⟨b0, o0, rfl, hca⟩ := ha3 (by omega)
  have h0 := hca i hi
  clear hca ha3
  go_enter Tryd.func81, Tryd.ntmps81
  go_wp2
  go_ret
  exact ⟨rfl, rfl⟩

theorem at_out (w : World) (va : Value) (a : List UInt8) (ha : Bs w va a) (i : Nat) (hi : a.length ≤ i) (hm : i ≤ maxLen) :
    Calls Tryd.prog 81 #[va, .int .i64 (i : Int)] w fun e w' => e = .returned (.int .u8 0) ∧ w = w' := by
  obtain ⟨A, ca, rfl, ha1, ha2, ha3⟩ := ha
  unfold maxLen at ha2 hm
  clear ha3
  go_enter Tryd.func81, Tryd.ntmps81
  go_wp2
  go_ret
  exact ⟨rfl, rfl⟩

theorem Tryd.infoB : (Tryd.prog.info? 5).map (fun i => (i.zero, i.size, i.bytes)) = some (some (.int .u8 0), 1, 1) := by kernel_rfl

end Go.Proofs.YtdojaighchgghaaDoor

