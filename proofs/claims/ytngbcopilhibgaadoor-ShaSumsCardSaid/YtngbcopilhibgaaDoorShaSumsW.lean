/-
  The walk of ShaSums. Conditions: what a row hands over.
-/
import Derived.Test.YtngbcopilhibgaaDoorShaU
import Derived.Test.YtngbcopilhibgaaDoorShaW
import Derived.Test.YtngbcopilhibgaaDoorShaX
namespace Go.Proofs.YtngbcopilhibgaaDoor
open Go.RowKit
set_option linter.unusedVariables false
set_option maxRecDepth 20000

set_option maxHeartbeats 4000000 in
theorem shaSums_walk (w : World) (hq : Tabs w) (v : Value) (l : List UInt8) (hb : Bs w v l) :
    Calls Tryd.prog 4 #[v] w (RetV w (.bool true)) := by
  have HQ := Lib.hid hq
  have HV := Lib.hid hb
  obtain ⟨A, c, rfl, h1, h2, h3⟩ := hb
  unfold maxLen at h2
  clear hq h3
  by_cases hl : 1000 < l.length
  · have d1 : decide ((1000 : Int) < (l.length : Int)) = true := by simp; omega
    go_enter Tryd.func4, Tryd.ntmps4
    go_wp2_with fail
    refine (awake_true _ HQ.out).mono ?_
    intro e w1 h
    obtain ⟨he, b1⟩ := h
    subst he
    go_wp2
    go_ret
    exact ⟨rfl, b1⟩
  · have d1 : decide ((1000 : Int) < (l.length : Int)) = false := by simp; omega
    obtain ⟨d, hd⟩ : ∃ d, d = digestB [l].flatten := ⟨_, rfl⟩
    have LD : Hid (d.length = 32) := by show _ = _; rw [hd, digestB_length]
    have HD := Lib.hid hd
    have HD2 : Hid (d = digestB l) := by show _ = _; rw [hd]; simp
    clear hd
    go_enter Tryd.func4, Tryd.ntmps4
    go_wp2_with fail
    refine (awake_true _ HQ.out).mono ?_
    intro e w1 h
    obtain ⟨he, b1⟩ := h
    subst he
    have B1 := Lib.hid b1
    clear b1
    go_wp2_with fail
    refine (New_any _ false).mono ?_
    intro e w2 h
    obtain ⟨g2, he, n2⟩ := h
    subst he
    have M2 := Lib.hid (Meet.new (HQ.out.below B1.out) B1.out n2)
    clear n2 B1
    go_wp2_with fail
    refine (Sum_meet w _ g2 0 _ [l] d (by exact M2.out.kept (alloc_below _ _)) (by omega) HD.out (by exact Bss.one _ _ _ _ (HV.out.below M2.out.below)) (by simp; omega) (by simp)).mono ?_
    intro e w3 h
    obtain ⟨he, m3, _⟩ := h
    subst he
    have M3 := Lib.hid m3
    clear m3 M2
    go_wp2_with (first
      | ((with_reducible refine wpList_alloc_row (o := ⟨some 5, _, _, _, _, _⟩) rfl 33 rfl (keyC zeroKey) Tryd.zeroK ?_); intro g4 w4 n4)
      | ((with_reducible refine wpList_store_row (o := ⟨none, _, _, _, _, _⟩) rfl 33 (.tmp 5) (.tmp 17) rfl g4 33 _ (keyC d) (by with_unfolding_all rfl) (by with_unfolding_all rfl) n4.row (keyC_same zeroKey_length LD.out) (Tryd.sizeKey d LD.out) (keyC_one d) ?_); intro w5 p4))
    have b5 := (laid_put n4 p4).1
    have B5 := Lib.hid (below_size M3.out.below b5)
    have R5 := Lib.hid p4.row
    clear n4 p4 b5 M3
    refine (New_any _ true).mono ?_
    intro e w6 h
    obtain ⟨g6, he, n6⟩ := h
    subst he
    have K6 := Lib.hid (MeetK.new HQ.out B5.out n6)
    have R56 := Lib.hid (R5.out.kept n6.below)
    have h56 : g4 ≠ g6 := by have := n6.spot; have := R5.out.lt; omega
    clear n6 R5 B5
    go_wp2_with fail
    refine (Sum_keep w _ g6 0 _ [] [l] (by exact K6.out.kept (alloc_below _ _)) (by omega) (by simp) (by exact Bss.one _ _ _ _ (HV.out.below K6.out.below)) (by simp; omega) (by simp)).mono ?_
    intro e w7 h
    obtain ⟨he, k7, l7⟩ := h
    subst he
    rw [← HD.out]
    have B7 := Lib.hid k7.below
    have T7 := Lib.hid k7.tabs
    have R57 := Lib.hid (l7.row _ _ _ h56 (by decide) (R56.out.kept (alloc_below _ _)))
    clear k7 l7 K6 R56
    go_wp2_with (first
      | ((with_reducible refine wpList_alloc_row (o := ⟨some 6, _, _, _, _, _⟩) rfl 33 rfl (keyC zeroKey) Tryd.zeroK ?_); intro g8 w8 n8)
      | ((with_reducible refine wpList_store_row (o := ⟨none, _, _, _, _, _⟩) rfl 33 (.tmp 6) (.tmp 21) rfl g8 33 _ (keyC d) (by with_unfolding_all rfl) (by with_unfolding_all rfl) n8.row (keyC_same zeroKey_length LD.out) (Tryd.sizeKey d LD.out) (keyC_one d) ?_); intro w9 p8))
    have b9 := (laid_put n8 p8).1
    have B9 := Lib.hid (below_size B7.out b9)
    have R59 := Lib.hid (R57.out.kept b9)
    have R69 := Lib.hid p8.row
    clear n8 p8 b9 B7 R57 T7
    refine (Sum_nil _ (by exact HQ.out.below (below_size B9.out (alloc_below _ _))) _ [l] (by exact Bss.one _ _ _ _ (HV.out.below B9.out)) (by simp; omega) (by simp)).mono ?_
    intro e w10 h
    obtain ⟨he, b10⟩ := h
    subst he
    rw [← HD.out]
    have b10' := below_size (alloc_below _ _) b10
    have B10 := Lib.hid (below_size B9.out b10')
    have R5a := Lib.hid (R59.out.kept b10')
    have R6a := Lib.hid (R69.out.kept b10')
    clear b10 b10' B9 R59 R69
    go_wp2_with (first
      | ((with_reducible refine wpList_alloc_row (o := ⟨some 7, _, _, _, _, _⟩) rfl 33 rfl (keyC zeroKey) Tryd.zeroK ?_); intro g11 w11 n11)
      | ((with_reducible refine wpList_store_row (o := ⟨none, _, _, _, _, _⟩) rfl 33 (.tmp 7) (.tmp 25) rfl g11 33 _ (keyC d) (by with_unfolding_all rfl) (by with_unfolding_all rfl) n11.row (keyC_same zeroKey_length LD.out) (Tryd.sizeKey d LD.out) (keyC_one d) ?_); intro w12 p11))
    have b12 := (laid_put n11 p11).1
    have B12 := Lib.hid (below_size B10.out b12)
    have R5b := Lib.hid (R5a.out.kept b12)
    have R6b := Lib.hid (R6a.out.kept b12)
    have R7b := Lib.hid p11.row
    clear n11 p11 b12 B10 R5a R6a
    refine (refDigest_any _ _ l (HV.out.below B12.out) (by omega)).mono ?_
    intro e w13 h
    obtain ⟨he, b13⟩ := h
    subst he
    rw [keyV, ← HD2.out]
    have B13 := Lib.hid (below_size B12.out b13)
    have R5c := Lib.hid (R5b.out.kept b13)
    have R6c := Lib.hid (R6b.out.kept b13)
    have R7c := Lib.hid (R7b.out.kept b13)
    clear b13 B12 R5b R6b R7b
    have heq := fun w => Tryd.eqKeyIn2 d d LD.out LD.out w
    rw [beq_self_eq_true] at heq
    have hgd := Tryd.eqGuardKey2
    go_wp2_with (first
      | ((with_reducible refine wpList_alloc_row (o := ⟨some 8, _, _, _, _, _⟩) rfl 33 rfl (keyC zeroKey) Tryd.zeroK ?_); intro g14 w14 n14)
      | ((with_reducible refine wpList_store_row (o := ⟨none, _, _, _, _, _⟩) rfl 33 (.tmp 8) (.tmp 27) rfl g14 33 _ (keyC d) (by with_unfolding_all rfl) (by with_unfolding_all rfl) n14.row (keyC_same zeroKey_length LD.out) (Tryd.sizeKey d LD.out) (keyC_one d) ?_); intro w15 p15; have b15 := (laid_put n14 p15).1; have B15 := Lib.hid (below_size B13.out b15); have R5d := Lib.hid (R5c.out.kept b15); have R6d := Lib.hid (R6c.out.kept b15); have R7d := Lib.hid (R7c.out.kept b15); have R8d := Lib.hid p15.row; clear n14 p15 b15 B13 R5c R6c R7c)
      | (with_reducible refine wpListG_load_row (o := ⟨some 30, _, _, _, _, _⟩) 33 (.tmp 5) rfl (by with_unfolding_all rfl) g4 (by with_unfolding_all rfl) 33 (keyC d) (.array 32 5) (by with_unfolding_all exact R5d.out) Tryd.underlying33 rfl (Tryd.sizeKey d LD.out) ?_)
      | (with_reducible refine wpListG_load_row (o := ⟨some 31, _, _, _, _, _⟩) 33 (.tmp 8) rfl (by with_unfolding_all rfl) g14 (by with_unfolding_all rfl) 33 (keyC d) (.array 32 5) (by with_unfolding_all exact R8d.out) Tryd.underlying33 rfl (Tryd.sizeKey d LD.out) ?_)
      | (with_reducible refine wpListG_load_row (o := ⟨some 35, _, _, _, _, _⟩) 33 (.tmp 6) rfl (by with_unfolding_all rfl) g8 (by with_unfolding_all rfl) 33 (keyC d) (.array 32 5) (by with_unfolding_all exact R6d.out) Tryd.underlying33 rfl (Tryd.sizeKey d LD.out) ?_)
      | (with_reducible refine wpListG_load_row (o := ⟨some 36, _, _, _, _, _⟩) 33 (.tmp 8) rfl (by with_unfolding_all rfl) g14 (by with_unfolding_all rfl) 33 (keyC d) (.array 32 5) (by with_unfolding_all exact R8d.out) Tryd.underlying33 rfl (Tryd.sizeKey d LD.out) ?_)
      | (with_reducible refine wpListG_load_row (o := ⟨some 40, _, _, _, _, _⟩) 33 (.tmp 7) rfl (by with_unfolding_all rfl) g11 (by with_unfolding_all rfl) 33 (keyC d) (.array 32 5) (by with_unfolding_all exact R7d.out) Tryd.underlying33 rfl (Tryd.sizeKey d LD.out) ?_)
      | (with_reducible refine wpListG_load_row (o := ⟨some 41, _, _, _, _, _⟩) 33 (.tmp 8) rfl (by with_unfolding_all rfl) g14 (by with_unfolding_all rfl) 33 (keyC d) (.array 32 5) (by with_unfolding_all exact R8d.out) Tryd.underlying33 rfl (Tryd.sizeKey d LD.out) ?_))
    go_ret
    exact ⟨rfl, B15.out⟩
end Go.Proofs.YtngbcopilhibgaaDoor
