/-
  The walk of StreamTurns, where the four words are apart. Conditions: what a row hands over.
-/
import Derived.Test.YtplaoofclgpeeaaDoorStreamE
import Derived.Test.YtplaoofclgpeeaaDoorArrEq
namespace Go.Proofs.YtplaoofclgpeeaaDoor
open Go.RowKit
set_option linter.unusedVariables false
set_option maxRecDepth 20000

theorem Tryd.sizeOfW (w : World) : (sizeOf 22).run Tryd.prog w = .ok 1 w := by kernel_rfl
theorem Tryd.eqWordsIn (a b : List UInt32) (ha : a.length = 16) (hb : b.length = 16) (w : World) :
    (Op.equalIn 10000 24 (.agg (wordsC a)) (.agg (wordsC b))).run Tryd.prog w = .ok (a == b) w :=
  words_eqIn w 9998 _ _ 16 Tryd.underlying24 Tryd.underlying22 Tryd.sizeOfW a b ha hb
theorem Tryd.eqGuardWords : Tryd.prog.eqGuardType Tryd.prog.depth 24 = false := by kernel_rfl

theorem bne_int {a b : Nat} (h : a ≠ b) : ((a : Int) != (b : Int)) = true := by rw [bne_iff_ne]; omega
theorem bne_int_no {a b : Nat} (h : a = b) : ((a : Int) != (b : Int)) = false := by simp [h]

set_option maxHeartbeats 4000000 in
theorem turns_apart (w : World) (hq : Quar w) (vs ws : List UInt32) (hv : vs.length = 16) (hw : ws.length = 16) (a b c d : Int)
    (hab : low4 a ≠ low4 b) (hac : low4 a ≠ low4 c) (had : low4 a ≠ low4 d) (hbc : low4 b ≠ low4 c) (hbd : low4 b ≠ low4 d) (hcd : low4 c ≠ low4 d) :
    Calls Tryd.prog 7 #[.agg (wordsC vs), .agg (wordsC ws), .int .i64 a, .int .i64 b, .int .i64 c, .int .i64 d] w (RetV w (.bool true)) := by
  have q1 := fun x => Quarter_any x vs hv a b c d
  have q2 := fun x => Quarter_any x ws hw a b c d
  have hiff := quarterW_iff vs ws _ _ _ _ hv hw (low4_lt a) (low4_lt b) (low4_lt c) (low4_lt d) hab hac had hbc hbd hcd
  have l1 := quarterW_length vs (low4 a) (low4 b) (low4 c) (low4 d)
  have l2 := quarterW_length ws (low4 a) (low4 b) (low4 c) (low4 d)
  have hA := and15 a
  have hB := and15 b
  have hC := and15 c
  have hD := and15 d
  have n1 := bne_int hab
  have n2 := bne_int hac
  have n3 := bne_int had
  have n4 := bne_int hbc
  have n5 := bne_int hbd
  have n6 := bne_int hcd
  clear hab hac had hbc hbd hcd
  generalize low4 a = a' at *
  generalize low4 b = b' at *
  generalize low4 c = c' at *
  generalize low4 d = d' at *
  generalize quarterW vs a' b' c' d' = x1 at *
  generalize quarterW ws a' b' c' d' = x2 at *
  have HV := Lib.hid hv
  have HW := Lib.hid hw
  have L1 : Hid (x1.length = 16) := l1.trans hv
  have L2 : Hid (x2.length = 16) := l2.trans hw
  have HI := Lib.hid hiff
  have HQ := Lib.hid hq
  have Q1 := Lib.hid q1
  have Q2 := Lib.hid q2
  clear q1 q2 hiff l1 l2 hv hw hq
  go_enter Tryd.func7, Tryd.ntmps7
  go_wp2_with (first
    | ((with_reducible refine wpList_box_row (o := ⟨some 6, _, _, _, _, _⟩) rfl 24 (.tmp 0) rfl (wordsC vs) (by with_unfolding_all rfl) ?_); intro g1 w1 r1)
    | ((with_reducible refine wpList_box_row (o := ⟨some 7, _, _, _, _, _⟩) rfl 24 (.tmp 1) rfl (wordsC ws) (by with_unfolding_all rfl) ?_); intro g2 w2 r2))
  have B2 := below_size r1.below r2.below
  refine (awake_true _ (HQ.out.below B2)).mono ?_
  rintro e w3 ⟨rfl, b3⟩
  have B3 : Hid (Below w.heap.size w w3) := below_size B2 b3
  have R1 : Hid (RowAt w3 g1 24 (wordsC vs)) := (r1.row.kept r2.below).kept b3
  have R2 : Hid (RowAt w3 g2 24 (wordsC ws)) := r2.row.kept b3
  clear B2 r1 r2 b3 HQ
  go_wp2_with (with_reducible refine wpList_load_row (o := ⟨some 58, _, _, _, _, _⟩) rfl 24 (.tmp 6) rfl g1 (by with_unfolding_all rfl) 24 (wordsC vs) (0, 0) (.array 16 22) (by with_unfolding_all exact R1.out) Tryd.underlying24 rfl (Tryd.sizeWs vs HV.out) ?_)
  refine (Q1.out _).mono ?_
  rintro e w4 ⟨rfl, b4⟩
  go_wp2_with (first
    | ((with_reducible refine wpList_alloc_row (o := ⟨some 15, _, _, _, _, _⟩) rfl 24 rfl (wordsC zeroW) Tryd.zeroWs ?_); intro g5 w5 n5)
    | ((with_reducible refine wpList_store_row (o := ⟨none, _, _, _, _, _⟩) rfl 24 (.tmp 15) (.tmp 63) rfl g5 24 _ (wordsC x1) (by with_unfolding_all rfl) (by with_unfolding_all rfl) n5.row (wordsC_same zeroW_length L1.out) (Tryd.sizeWs x1 L1.out) (wordsC_one x1) ?_); intro w6 p6)
    | (with_reducible refine wpList_load_row (o := ⟨some 64, _, _, _, _, _⟩) rfl 24 (.tmp 7) rfl g2 (by with_unfolding_all rfl) 24 (wordsC ws) (0, 0) (.array 16 22) (by with_unfolding_all exact (R2.out.kept (below_size b4 (laid_put n5 p6).1))) Tryd.underlying24 rfl (Tryd.sizeWs ws HW.out) ?_))
  have b6 := below_size b4 (laid_put n5 p6).1
  have R16 := R1.out.kept b6
  have R26 := R2.out.kept b6
  have R5 := p6.row
  have B6 := below_size B3.out b6
  clear b4 n5 p6 b6 R1 R2 B3
  refine (Q2.out _).mono ?_
  rintro e w7 ⟨rfl, b7⟩
  go_wp2_with (first
    | ((with_reducible refine wpList_alloc_row (o := ⟨some 16, _, _, _, _, _⟩) rfl 24 rfl (wordsC zeroW) Tryd.zeroWs ?_); intro g8 w8 n8)
    | ((with_reducible refine wpList_store_row (o := ⟨none, _, _, _, _, _⟩) rfl 24 (.tmp 16) (.tmp 69) rfl g8 24 _ (wordsC x2) (by with_unfolding_all rfl) (by with_unfolding_all rfl) n8.row (wordsC_same zeroW_length L2.out) (Tryd.sizeWs x2 L2.out) (wordsC_one x2) ?_); intro w9 p9))
  have b9 := below_size b7 (laid_put n8 p9).1
  have R1 := Lib.hid (R16.kept b9)
  have R2 := Lib.hid (R26.kept b9)
  have R3 := Lib.hid (R5.kept b9)
  have R4 := Lib.hid p9.row
  have B9 := Lib.hid (below_size B6 b9)
  clear b7 n8 p9 b9 R16 R26 R5 B6
  have hq1 := Tryd.eqWordsIn x1 x2 L1.out L2.out
  have hq2 := Tryd.eqWordsIn vs ws HV.out HW.out
  have hgd := Tryd.eqGuardWords
  rw [HI.out] at hq1
  generalize (vs == ws) = bb at hq1 hq2
  refine wp_region_still_lit (by kernel_rfl) (by kernel_rfl) ?_
  repeat still_step
  refine still_load_row _ (.tmp 15) rfl (by rfl) g5 rfl _ (wordsC x1) (0, 0) (.array 16 22) R3.out Tryd.underlying24 rfl (Tryd.sizeWs x1 L1.out) ?_
  refine still_load_row _ (.tmp 16) rfl (by rfl) g8 rfl _ (wordsC x2) (0, 0) (.array 16 22) R4.out Tryd.underlying24 rfl (Tryd.sizeWs x2 L2.out) ?_
  simp only [Act.put, List.setIfInBounds_toArray]
  still_step
  refine still_load_row _ (.tmp 6) rfl (by rfl) g1 rfl _ (wordsC vs) (0, 0) (.array 16 22) R1.out Tryd.underlying24 rfl (Tryd.sizeWs vs HV.out) ?_
  refine still_load_row _ (.tmp 7) rfl (by rfl) g2 rfl _ (wordsC ws) (0, 0) (.array 16 22) R2.out Tryd.underlying24 rfl (Tryd.sizeWs ws HW.out) ?_
  simp only [Act.put, List.setIfInBounds_toArray]
  repeat still_step
  refine wpStill_nil ?_
  change Exit.then _ _ _ _ w9.drew
  clear hq1 hq2 hgd
  go_wp2
  go_ret
  exact ⟨by simp, B9.out.drew⟩

end Go.Proofs.YtplaoofclgpeeaaDoor
