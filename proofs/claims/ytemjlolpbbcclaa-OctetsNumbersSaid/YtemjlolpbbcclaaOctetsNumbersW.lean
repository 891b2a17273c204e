/-
  The walk of OctetsNumbers. Conditions: what a row hands over.
-/
import Derived.Test.YtemjlolpbbcclaaAwake
import Derived.Test.YtemjlolpbbcclaaD
namespace Go.Proofs.Ytemjlolpbbcclaa
open Go.RowKit
set_option linter.unusedVariables false

set_option maxHeartbeats 2000000 in
theorem octetsNumbers_walk (w : World) (n : Nat) (hn : n < 18446744073709551616) (s : Int) (hs : -9223372036854775808 ≤ s ∧ s ≤ 9223372036854775807) (v : Value) (l : List UInt8) (hb : Bs w v l) :
    Calls Try.prog 3 #[.int .u64 (n : Int), .int .i64 s, v] w (RetV w (.bool true)) := by
  have HV := Lib.hid hb
  obtain ⟨A, c, rfl, h1, h2, h3⟩ := hb
  unfold maxLen at h2
  clear h3
  by_cases hlen : 40 < l.length
  · go_enter Try.func3, Try.ntmps3
    go_wp2_with fail
    refine (awake_true _).mono ?_
    rintro e w1 ⟨rfl, b1⟩
    go_wp2
    go_ret
    exact ⟨rfl, b1⟩
  · go_enter Try.func3, Try.ntmps3
    go_wp2_with fail
    refine (awake_true _).mono ?_
    rintro e w1 ⟨rfl, b1⟩
    go_wp2_with fail
    refine (Low_any _ n hn s).mono ?_
    rintro e w2 ⟨vx, rfl, hx2, b2'⟩
    have b2 := below_size b1 b2'
    clear b1 b2'
    go_wp2_with fail
    refine (High_any _ n hn s).mono ?_
    rintro e w3 ⟨vy, rfl, hy3, b3'⟩
    have hx3 := hx2.below b3'
    have b3 := below_size b2 b3'
    clear hx2 b2 b3'
    have hv3 := HV.out.below b3
    go_wp2_with fail
    refine (OfLow_any _ _ l hv3).mono ?_
    rintro e w3 ⟨rfl, rfl⟩
    go_wp2_with fail
    refine (OfHigh_any _ _ l hv3).mono ?_
    rintro e w3 ⟨rfl, rfl⟩
    go_wp2_with fail
    refine (refLow_any _ n hn s hs).mono ?_
    rintro e w4 ⟨vp, rfl, hp4, b4'⟩
    have hx4 := hx3.below b4'
    have hy4 := hy3.below b4'
    have b4 := below_size b3 b4'
    clear hx3 hy3 hv3 b3 b4'
    go_wp2_with fail
    refine (refSame_yes _ _ _ _ hx4 hp4).mono ?_
    rintro e w5 ⟨rfl, b5'⟩
    have hy5 := hy4.below b5'
    have b5 := below_size b4 b5'
    clear hx4 hp4 hy4 b4 b5'
    go_wp2_with fail
    refine (refHigh_any _ n hn s hs).mono ?_
    rintro e w6 ⟨vq, rfl, hq6, b6'⟩
    have hy6 := hy5.below b6'
    have b6 := below_size b5 b6'
    clear hy5 b5 b6'
    go_wp2_with fail
    refine (refSame_yes _ _ _ _ hy6 hq6).mono ?_
    rintro e w7 ⟨rfl, b7'⟩
    have b7 := below_size b6 b7'
    clear hy6 hq6 b6 b7'
    have hv7 := HV.out.below b7
    go_wp2_with fail
    refine (refOfLow_any _ _ l hv7).mono ?_
    rintro e w7 ⟨rfl, rfl⟩
    go_wp2_with fail
    refine (refOfHigh_any _ _ l hv7).mono ?_
    rintro e w7 ⟨rfl, rfl⟩
    go_wp2
    go_ret
    exact ⟨rfl, b7⟩
end Go.Proofs.Ytemjlolpbbcclaa
