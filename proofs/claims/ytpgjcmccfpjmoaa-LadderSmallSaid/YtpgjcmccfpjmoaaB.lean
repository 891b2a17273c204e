/-
  Contracts of octets' small functions. Conditions: as each theorem names them.
-/
import Derived.Test.YtpgjcmccfpjmoaaChecked
import Derived.Test.YtpgjcmccfpjmoaaMem
import Derived.Test.YtpgjcmccfpjmoaaOctMath
import Derived.WalkKit
import Derived.LoopTactic
import Derived.RegionTactic
import Derived.Deep.QuietTactic
import Derived.BigQuiet
import Derived.Outline
import Derived.WalkSpells
import Derived.WalkLawsBesides
namespace Go.Proofs.Ytpgjcmccfpjmoaa
open Go.RowKit
set_option linter.unusedVariables false

theorem fits_yes (w : World) (n : Int) (h1 : 1 ≤ n) (h2 : n ≤ 8) :
    Calls Try.prog 62 #[.int .i64 n] w fun e w' => e = .returned (.bool true) ∧ w = w' := by
  go_enter Try.func62, Try.ntmps62
  go_wp2
  go_ret
  exact ⟨rfl, rfl⟩

theorem fits_no (w : World) (n : Int) (h : n < 1 ∨ 8 < n) :
    Calls Try.prog 62 #[.int .i64 n] w fun e w' => e = .returned (.bool false) ∧ w = w' := by
  rcases h with h | h
  · have h1 : decide ((1 : Int) ≤ n) = false := by simp; omega
    go_enter Try.func62, Try.ntmps62
    go_wp2
    go_ret
    exact ⟨rfl, rfl⟩
  · have h0 : (1 : Int) ≤ n := by omega
    have h1 : decide (n ≤ (8 : Int)) = false := by simp; omega
    go_enter Try.func62, Try.ntmps62
    go_wp2
    go_ret
    exact ⟨rfl, rfl⟩

theorem byteN_int (n i : Nat) : (n : Int) / 2 ^ (8 * i) % 256 = ((byteN n i).toNat : Int) := by
  have h : (2 : Int) ^ (8 * i) = ((256 ^ i : Nat) : Int) := by
    rw [show (256 : Nat) = 2 ^ 8 from rfl, ← Nat.pow_mul]
    simp
  rw [byteN_toNat, h]
  omega

theorem byteAt_any (w : World) (n i : Nat) (hn : n < 18446744073709551616) (hi : i ≤ 7) :
    Calls Try.prog 63 #[.int .u64 (n : Int), .int .i64 (i : Int)] w fun e w' => e = .returned (.int .u8 ((byteN n i).toNat : Int)) ∧ w = w' := by
  go_enter Try.func63, Try.ntmps63
  go_wp2
  go_ret
  exact ⟨ret_int (byteN_int n i), rfl⟩

theorem at_in (w : World) (va : Value) (a : List UInt8) (ha : Bs w va a) (i : Nat) (hi : i < a.length) :
    Calls Try.prog 46 #[va, .int .i64 (i : Int)] w fun e w' => e = .returned (.int .u8 (a[i].toNat : Int)) ∧ w = w' := by
  obtain ⟨A, ca, rfl, ha1, ha2, ha3⟩ := ha
  unfold maxLen at ha2
  obtain ⟨b0, o0, rfl, hca⟩ := ha3 (by omega)
  have h0 := hca i hi
  clear hca ha3
  go_enter Try.func46, Try.ntmps46
  go_wp2
  go_ret
  exact ⟨rfl, rfl⟩

theorem at_out (w : World) (va : Value) (a : List UInt8) (ha : Bs w va a) (i : Nat) (hi : a.length ≤ i) (hm : i ≤ maxLen) :
    Calls Try.prog 46 #[va, .int .i64 (i : Int)] w fun e w' => e = .returned (.int .u8 0) ∧ w = w' := by
  obtain ⟨A, ca, rfl, ha1, ha2, ha3⟩ := ha
  unfold maxLen at ha2 hm
  clear ha3
  go_enter Try.func46, Try.ntmps46
  go_wp2
  go_ret
  exact ⟨rfl, rfl⟩

theorem Try.infoB : (Try.prog.info? 5).map (fun i => (i.zero, i.size, i.bytes)) = some (some (.int .u8 0), 1, 1) := by kernel_rfl

set_option maxHeartbeats 400000 in
theorem Low_in (w : World) (n s : Nat) (hn : n < 18446744073709551616) (hs1 : 1 ≤ s) (hs2 : s ≤ 8) :
    Calls Try.prog 45 #[.int .u64 (n : Int), .int .i64 (s : Int)] w (RetBs w (lowB n s)) := by
  obtain ⟨i0, hi, hz0, hz1, hz2⟩ := info_parts Try.infoB
  have hlen := lowB_length n s
  have HL := Lib.hid hlen
  clear hlen
  go_enter Try.func45, Try.ntmps45
  go_wp2_with (first
    | (go_at_call 62; refine (fits_yes _ _ (by omega) (by omega)).mono ?_; rintro e w' ⟨rfl, rfl⟩)
    | (refine wpList_make_full _ rfl (.tmp 10) (.tmp 10) 41 rfl w.heap.size 5 i0 (.int .u8 0) 1 Try.underlying41 hi hz0 hz1 .i64 .i64 _ _ s rfl rfl rfl rfl (by rw [hz2]; omega) (by unfold maxLen; omega) (Nat.le_refl _) ?_; intro w1 hown hgrow))
  rw [made_zeros] at hown
  have hown0 : w1.ownsRow w.heap.size 5 1 (.slice (some ⟨w.heap.size, 0, none⟩) s s) s (cellsB (partly (lowB n s) 0)) := by
    rw [partly_zero, HL.out]; exact hown
  have hbel : Below w.heap.size w w1 := (Below.refl _ _).grown hgrow (Nat.le_refl _) (fun k h => by cases h)
  clear hown hgrow
  go_loopw [13] (fun i wr => ∃ k : Nat, k ≤ s ∧ i = .int .i64 k ∧ wr.ownsRow w.heap.size 5 1 (.slice (some ⟨w.heap.size, 0, none⟩) s s) s (cellsB (partly (lowB n s) k)) ∧ Below w.heap.size w wr) (fun i _ => s - (intOf i).toNat)
  case atStart => exact ⟨0, Nat.zero_le _, rfl, hown0, hbel⟩
  case round =>
    obtain ⟨k, hk, rfl, hown, hb⟩ := hrel
    clear hown0 hbel
    by_cases hlt : k < s
    · obtain ⟨old, hcell⟩ := own_some hown k hlt
      have hfz := hown.frozenAt k
      have hput := own_put hown k (byteN n k)
      have hget : (lowB n s)[k]'(by rw [HL.out]; omega) = byteN n k := by simp [lowB]
      rw [← hget, partly_step _ _ (by rw [HL.out]; omega), hget] at hput
      have HP := Lib.hid hput
      have HG := Lib.hid hown
      have HB := Lib.hid hb
      clear hput hown hget hb
      go_wp2_with (go_at_call 63; refine (byteAt_any _ n k hn (by omega)).mono ?_; rintro e w' ⟨rfl, rfl⟩)
      go_roundw
      case rel => exact ⟨k + 1, by omega, by go_num, HP.out, HB.out.setCell (by simp) _⟩
      case measure => simp [intOf]; omega
    · have hks : k = s := by omega
      subst hks
      have hown2 : wr.ownsRow w.heap.size 5 1 (.slice (some ⟨w.heap.size, 0, none⟩) k k) k (cellsB (lowB n k)) := by
        have := partly_all (lowB n k); rw [HL.out] at this; rwa [this] at hown
      have HO := Lib.hid hown2
      have HB := Lib.hid hb
      clear hown2 hown hb
      go_wp2
      go_ret
      exact ⟨_, rfl, Bs.of_own HO.out, HB.out⟩
end Go.Proofs.Ytpgjcmccfpjmoaa

