/-
  The walk of OctetsDigits. Conditions: what a row hands over.
-/
import Derived.Test.YtemjlolpbbcclaaAwake
namespace Go.Proofs.Ytemjlolpbbcclaa
open Go.RowKit
set_option linter.unusedVariables false

theorem ba_of {s : ByteArray} {l : List UInt8} (h : s.data.toList = l) : s = ⟨l.toArray⟩ := by
  apply ByteArray.ext
  rw [← h]
theorem unhex_even {s : List UInt8} {x : List UInt8} (h : unhexL s = some x) : hexL x = s := by
  rcases Nat.mod_two_eq_zero_or_one s.length with h0 | h0
  · exact hex_unhex (s.length / 2) s x (by omega) h
  · rw [unhexL_odd (s.length / 2) s (by omega)] at h
    cases h

set_option maxHeartbeats 2000000 in
theorem octetsDigits_walk (w : World) (s : ByteArray) (hs : s.size ≤ maxLen) :
    Calls Try.prog 5 #[.string s] w (RetV w (.bool true)) := by
  unfold maxLen at hs
  by_cases hlen : 200 < s.size
  · go_enter Try.func5, Try.ntmps5
    go_wp2_with fail
    refine (awake_true _).mono ?_
    rintro e w1 ⟨rfl, b1⟩
    go_wp2
    go_ret
    exact ⟨rfl, b1⟩
  · have hU := fun w => Unhex_any w s (by omega)
    have hR := fun w => refUnhex_any w s (by omega)
    rcases hu : unhexL s.data.toList with _ | x
    · rw [hu] at hU hR
      have HU := Lib.hid hU
      have HR := Lib.hid hR
      clear hU hR hu
      go_enter Try.func5, Try.ntmps5
      go_wp2_with fail
      refine (awake_true _).mono ?_
      rintro e w1 ⟨rfl, b1⟩
      go_wp2_with fail
      refine (HU.out _).mono ?_
      rintro e w2 ⟨va, rfl, ha2, b2'⟩
      have b2 := below_size b1 b2'
      clear b1 b2'
      simp only [Option.isSome_none, Option.getD_none] at ha2 ⊢
      go_wp2_with fail
      refine (HR.out _).mono ?_
      rintro e w3 ⟨vb, rfl, hb3, b3'⟩
      have ha3 := ha2.below b3'
      have b3 := below_size b2 b3'
      clear ha2 b2 b3'
      simp only [Option.isSome_none, Option.getD_none] at hb3 ⊢
      go_wp2_with fail
      refine (Hex_any _ _ [] ha3 (by simp)).mono ?_
      rintro e w4 ⟨rfl, b4'⟩
      have ha4 := ha3.below b4'
      have hb4 := hb3.below b4'
      have b4 := below_size b3 b4'
      clear ha3 hb3 b3 b4'
      go_wp2_with fail
      refine (refSame_yes _ _ _ [] ha4 hb4).mono ?_
      rintro e w5 ⟨rfl, b5'⟩
      have b5 := below_size b4 b5'
      go_wp2
      go_ret
      exact ⟨rfl, b5⟩
    · have hx := unhex_even hu
      rw [hu] at hU hR
      obtain rfl := ba_of hx.symm
      have HU := Lib.hid hU
      have HR := Lib.hid hR
      have hll : (hexL x).length ≤ 200 := by simpa [ByteArray.size] using hlen
      have hxl : x.length ≤ 100 := by rw [hexL_length] at hll; omega
      clear hU hR hu hx
      go_enter Try.func5, Try.ntmps5
      go_wp2_with fail
      refine (awake_true _).mono ?_
      rintro e w1 ⟨rfl, b1⟩
      go_wp2_with fail
      refine (HU.out _).mono ?_
      rintro e w2 ⟨va, rfl, ha2, b2'⟩
      have b2 := below_size b1 b2'
      clear b1 b2'
      simp only [Option.isSome_some, Option.getD_some, if_true] at ha2 ⊢
      go_wp2_with fail
      refine (HR.out _).mono ?_
      rintro e w3 ⟨vb, rfl, hb3, b3'⟩
      have ha3 := ha2.below b3'
      have b3 := below_size b2 b3'
      clear ha2 b2 b3'
      simp only [Option.isSome_some, Option.getD_some, if_true] at hb3 ⊢
      go_wp2_with fail
      refine (Hex_any _ _ x ha3 (by omega)).mono ?_
      rintro e w4 ⟨rfl, b4'⟩
      have ha4 := ha3.below b4'
      have hb4 := hb3.below b4'
      have b4 := below_size b3 b4'
      clear ha3 hb3 b3 b4'
      go_wp2_with fail
      refine (refSame_yes _ _ _ x ha4 hb4).mono ?_
      rintro e w5 ⟨rfl, b5'⟩
      have b5 := below_size b4 b5'
      go_wp2
      go_ret
      exact ⟨rfl, b5⟩
end Go.Proofs.Ytemjlolpbbcclaa
