/-
  The walk of StreamTurns. Conditions: what a row hands over.
-/
import Derived.Test.YtplaoofclgpeeaaDoorStreamTurnsV
namespace Go.Proofs.YtplaoofclgpeeaaDoor
open Go.RowKit
set_option linter.unusedVariables false
set_option maxRecDepth 20000

set_option maxHeartbeats 4000000 in
theorem turns_near (w : World) (hq : Quar w) (vs ws : List UInt32) (hv : vs.length = 16) (hw : ws.length = 16) (a b c d : Int)
    (h : ¬ (low4 a ≠ low4 b ∧ low4 a ≠ low4 c ∧ low4 a ≠ low4 d ∧ low4 b ≠ low4 c ∧ low4 b ≠ low4 d ∧ low4 c ≠ low4 d)) :
    Calls Tryd.prog 7 #[.agg (wordsC vs), .agg (wordsC ws), .int .i64 a, .int .i64 b, .int .i64 c, .int .i64 d] w (RetV w (.bool true)) := by
  have q1 := fun x => Quarter_any x vs hv a b c d
  have q2 := fun x => Quarter_any x ws hw a b c d
  have l1 := quarterW_length vs (low4 a) (low4 b) (low4 c) (low4 d)
  have l2 := quarterW_length ws (low4 a) (low4 b) (low4 c) (low4 d)
  have hA := and15 a
  have hB := and15 b
  have hC := and15 c
  have hD := and15 d
  generalize low4 a = a' at *
  generalize low4 b = b' at *
  generalize low4 c = c' at *
  generalize low4 d = d' at *
  generalize quarterW vs a' b' c' d' = x1 at *
  generalize quarterW ws a' b' c' d' = x2 at *
  have HV := Lib.hid hv
  have HW := Lib.hid hw
  have L1 : Hid (x1.length = 16) := l1.trans hv
  have L2 : Hid (x2.length = 16) := l2.trans hw
  have HQ := Lib.hid hq
  have Q1 := Lib.hid q1
  have Q2 := Lib.hid q2
  clear q1 q2 l1 l2 hv hw hq
  have cases : ((a' : Int) != (b' : Int)) = false ∨ (((a' : Int) != (b' : Int)) = true ∧ ((a' : Int) != (c' : Int)) = false) ∨ (((a' : Int) != (b' : Int)) = true ∧ ((a' : Int) != (c' : Int)) = true ∧ ((a' : Int) != (d' : Int)) = false) ∨ (((a' : Int) != (b' : Int)) = true ∧ ((a' : Int) != (c' : Int)) = true ∧ ((a' : Int) != (d' : Int)) = true ∧ ((b' : Int) != (c' : Int)) = false) ∨ (((a' : Int) != (b' : Int)) = true ∧ ((a' : Int) != (c' : Int)) = true ∧ ((a' : Int) != (d' : Int)) = true ∧ ((b' : Int) != (c' : Int)) = true ∧ ((b' : Int) != (d' : Int)) = false) ∨ (((a' : Int) != (b' : Int)) = true ∧ ((a' : Int) != (c' : Int)) = true ∧ ((a' : Int) != (d' : Int)) = true ∧ ((b' : Int) != (c' : Int)) = true ∧ ((b' : Int) != (d' : Int)) = true ∧ ((c' : Int) != (d' : Int)) = false) := by
    simp only [bne_iff_ne, bne_eq_false_iff_eq]
    omega
  clear h
  rcases cases with n1 | ⟨n1, n2⟩ | ⟨n1, n2, n3⟩ | ⟨n1, n2, n3, n4⟩ | ⟨n1, n2, n3, n4, n5⟩ | ⟨n1, n2, n3, n4, n5, n6⟩
  all_goals
    go_enter Tryd.func7, Tryd.ntmps7
    go_wp2_with (first
      | ((with_reducible refine wpList_box_row (o := ⟨some 6, _, _, _, _, _⟩) rfl 24 (.tmp 0) rfl (wordsC vs) (by with_unfolding_all rfl) ?_); intro g1 w1 r1)
      | ((with_reducible refine wpList_box_row (o := ⟨some 7, _, _, _, _, _⟩) rfl 24 (.tmp 1) rfl (wordsC ws) (by with_unfolding_all rfl) ?_); intro g2 w2 r2))
    have B2 := below_size r1.below r2.below
    refine (awake_true _ (HQ.out.below B2)).mono ?_
    rintro e w3 ⟨rfl, b3⟩
    have B3 : Hid (Below w.heap.size w w3) := below_size B2 b3
    have R1 : Hid (RowAt w3 g1 24 (wordsC vs)) := (r1.row.kept r2.below).kept b3
    have R2 : Hid (RowAt w3 g2 24 (wordsC ws)) := r2.row.kept b3
    clear B2 r1 r2 b3
    go_wp2_with (with_reducible refine wpList_load_row (o := ⟨some 58, _, _, _, _, _⟩) rfl 24 (.tmp 6) rfl g1 (by with_unfolding_all rfl) 24 (wordsC vs) (0, 0) (.array 16 22) (by with_unfolding_all exact R1.out) Tryd.underlying24 rfl (Tryd.sizeWs vs HV.out) ?_)
    refine (Q1.out _).mono ?_
    rintro e w4 ⟨rfl, b4⟩
    go_wp2_with (first
      | ((with_reducible refine wpList_alloc_row (o := ⟨some 15, _, _, _, _, _⟩) rfl 24 rfl (wordsC zeroW) Tryd.zeroWs ?_); intro g5 w5 n5)
      | ((with_reducible refine wpList_store_row (o := ⟨none, _, _, _, _, _⟩) rfl 24 (.tmp 15) (.tmp 63) rfl g5 24 _ (wordsC x1) (by with_unfolding_all rfl) (by with_unfolding_all rfl) n5.row (wordsC_same zeroW_length L1.out) (Tryd.sizeWs x1 L1.out) (wordsC_one x1) ?_); intro w6 p6)
      | (with_reducible refine wpList_load_row (o := ⟨some 64, _, _, _, _, _⟩) rfl 24 (.tmp 7) rfl g2 (by with_unfolding_all rfl) 24 (wordsC ws) (0, 0) (.array 16 22) (by with_unfolding_all exact (R2.out.kept (below_size b4 (laid_put n5 p6).1))) Tryd.underlying24 rfl (Tryd.sizeWs ws HW.out) ?_))
    have b6 := below_size b4 (laid_put n5 p6).1
    have B6 := below_size B3.out b6
    clear b4 n5 p6 b6 R1 R2 B3
    refine (Q2.out _).mono ?_
    rintro e w7 ⟨rfl, b7⟩
    go_wp2_with (first
      | ((with_reducible refine wpList_alloc_row (o := ⟨some 16, _, _, _, _, _⟩) rfl 24 rfl (wordsC zeroW) Tryd.zeroWs ?_); intro g8 w8 n8)
      | ((with_reducible refine wpList_store_row (o := ⟨none, _, _, _, _, _⟩) rfl 24 (.tmp 16) (.tmp 69) rfl g8 24 _ (wordsC x2) (by with_unfolding_all rfl) (by with_unfolding_all rfl) n8.row (wordsC_same zeroW_length L2.out) (Tryd.sizeWs x2 L2.out) (wordsC_one x2) ?_); intro w9 p9))
    have B9 := Lib.hid (below_size B6 (below_size b7 (laid_put n8 p9).1))
    clear b7 n8 p9 B6
    refine region_stillG (by kernel_rfl) (by kernel_rfl) ?_
    refine StillG.step (by go_simp) (fun K hK => ?_)
    go_simp
    refine hK _ ?_
    clear hK K
    refine StillG.step (by go_simp) (fun K hK => ?_)
    go_simp
    refine hK _ ?_
    clear hK K
    refine StillG.step (by go_simp) (fun K hK => ?_)
    go_simp
    refine hK _ ?_
    clear hK K
    refine StillG.step (by go_simp) (fun K hK => ?_)
    go_simp
    refine hK _ ?_
    clear hK K
    refine StillG.step (by go_simp) (fun K hK => ?_)
    go_simp
    refine hK _ ?_
    clear hK K
    refine StillG.skip (by go_simp) ?_
    simp only [Act.put, List.setIfInBounds_toArray]
    refine StillG.skip (by go_simp) ?_
    simp only [Act.put, List.setIfInBounds_toArray]
    refine StillG.skip (by go_simp) ?_
    simp only [Act.put, List.setIfInBounds_toArray]
    refine StillG.skip (by go_simp) ?_
    simp only [Act.put, List.setIfInBounds_toArray]
    refine StillG.skip (by go_simp) ?_
    simp only [Act.put, List.setIfInBounds_toArray]
    refine StillG.skip (by go_simp) ?_
    simp only [Act.put, List.setIfInBounds_toArray]
    refine StillG.skip (by go_simp) ?_
    simp only [Act.put, List.setIfInBounds_toArray]
    refine StillG.step (by go_simp) (fun K hK => ?_)
    go_simp
    refine hK _ ?_
    clear hK K
    refine StillG.step (by go_simp) (fun K hK => ?_)
    go_simp
    refine hK _ ?_
    clear hK K
    refine StillG.step (by go_simp) (fun K hK => ?_)
    go_simp
    refine hK _ ?_
    clear hK K
    refine StillG.nil ?_
    change Exit.then _ _ _ _ w9.drew
    go_wp2
    go_ret
    exact ⟨rfl, B9.out.drew⟩

theorem streamTurns_walk (w : World) (hq : Quar w) (vs : List UInt32) (hv : vs.length = 16) (ws : List UInt32) (hw : ws.length = 16) (a : Int) (ha : -9223372036854775808 ≤ a ∧ a ≤ 9223372036854775807) (b : Int) (hb : -9223372036854775808 ≤ b ∧ b ≤ 9223372036854775807) (c : Int) (hc : -9223372036854775808 ≤ c ∧ c ≤ 9223372036854775807) (d : Int) (hd : -9223372036854775808 ≤ d ∧ d ≤ 9223372036854775807) :
    Calls Tryd.prog 7 #[.agg (wordsC vs), .agg (wordsC ws), .int .i64 a, .int .i64 b, .int .i64 c, .int .i64 d] w (RetV w (.bool true)) := by
  by_cases h : low4 a ≠ low4 b ∧ low4 a ≠ low4 c ∧ low4 a ≠ low4 d ∧ low4 b ≠ low4 c ∧ low4 b ≠ low4 d ∧ low4 c ≠ low4 d
  · exact turns_apart w hq vs ws hv hw a b c d h.1 h.2.1 h.2.2.1 h.2.2.2.1 h.2.2.2.2.1 h.2.2.2.2.2
  · exact turns_near w hq vs ws hv hw a b c d h
end Go.Proofs.YtplaoofclgpeeaaDoor
