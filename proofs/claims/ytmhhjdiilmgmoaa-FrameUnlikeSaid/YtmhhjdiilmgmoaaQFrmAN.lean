/-
  Texts that belong together, merged: FrmK, FrmG, Frame, Open, CodOr, FrmO, CodF0. Conditions: as each theorem names them.
-/
import Derived.Test.YtmhhjdiilmgmoaaQFrmAM
import Derived.Test.YtmhhjdiilmgmoaaQFrmAG
import Derived.Test.YtmhhjdiilmgmoaaQFrmAA
import Derived.OpenShut
import Derived.Test.YtmhhjdiilmgmoaaQFrmAE
import Derived.Lib.LaidTab
import Derived.Deep.DeepHandedRow
import Derived.Test.YtmhhjdiilmgmoaaQFrmAI
import Derived.WideShapes
import Derived.Test.YtmhhjdiilmgmoaaQFrmAD
section
namespace Go.Proofs.Ytmhhjdiilmgmoaa
open Go.RowKit
set_option linter.unusedVariables false
set_option maxRecDepth 20000

theorem ex_zero : checkE zeroFr = 51 := by decide
theorem ex_63 : checkE (exFr 63 []) = 3 := by simp [checkE, shapeE, exFr, zerosB]
theorem ex_64 : checkE (exFr 64 []) = 40 := by simp [checkE, shapeE, exFr, zerosB]
theorem ex_67 : checkE (exFr 64 zerosK) = 0 := by simp [checkE, shapeE, exFr, zerosB, zerosK]
theorem ex_len : (encO (exFr 64 zerosK)).length = 2319 := by
  unfold encO
  rw [if_pos ex_67, (encB_length ex_67 ⟨exFr_ok _ _, zerosK_len⟩).1]; rfl
theorem zerosB_length (n : Nat) : (zerosB n).length = n := by simp [zerosB]

set_option maxHeartbeats 1000000 in
theorem some_any (w : World) : Calls Try.prog 24 #[] w fun e w' => ∃ u, e = .returned u ∧ FrV w' u (exFr 64 zerosK) ∧ Below w.heap.size w w' := by
  go_enter Try.func24, Try.ntmps24
  go_wp2_with (first
    | ((with_reducible refine wpList_alloc_row (o := ⟨some 0, _, _, _, _, _⟩) rfl 28 rfl (frC zeroFr nilS nilS) Try.zeroOfFr ?_); intro g0 w0 n0))
  refine plain_region (S := fun _ => True) (fin := fun _ => false) (by kernel_rfl) ?_
  try simp only [Act.put, List.setIfInBounds_toArray, List.set_cons_zero]
  refine walkS_two (i := 0) (j := 1) (oi := ⟨some 1, _, _, _, _, _⟩) (oj := ⟨some 2, _, _, _, _, _⟩) (by kernel_rfl) rfl rfl rfl rfl (fun KK hKK => ?_) (fun KK hKK => ?_)
  · refine wp_make 25 5 (.const (.int .i64 64)) (.const (.int .i64 64)) rfl 64 64 (by with_unfolding_all rfl) (by with_unfolding_all rfl) Try.underlying25 (.int .u8 0) 1 1 Try.infoBy (cellsB (zerosB 64)).toArray made64 (by decide) (by decide) (by decide) fun gb w1 n1 => ?_
    refine hKK _ _ (.inr trivial) ?_
    clear hKK KK
    try simp only [Act.put, List.setIfInBounds_toArray, List.set_cons_zero, List.set_cons_succ]
    refine walkS_only (i := 1) (o := ⟨some 2, _, _, _, _, _⟩) (by kernel_rfl) rfl rfl fun KK hKK => ?_
    refine wp_make 26 24 (.const (.int .i64 67)) (.const (.int .i64 67)) rfl 67 67 (by with_unfolding_all rfl) (by with_unfolding_all rfl) Try.underlying26 (.agg (keyC zeroKey)) 32 32 Try.infoKey (keyC zerosK.flatten) made67 (by decide) (by decide) (by decide) fun gk w2 n2 => ?_
    refine hKK _ _ (.inr trivial) ?_
    clear hKK KK
    try simp only [Act.put, List.setIfInBounds_toArray, List.set_cons_zero, List.set_cons_succ]
    refine walkS_only (i := 2) (o := ⟨some 3, _, _, _, _, _⟩) (by kernel_rfl) rfl rfl fun KK hKK => ?_
    refine wp_val (.agg (frC (exFr 64 zerosK) (.slice (some ⟨gb, 0, none⟩) 64 64) (.slice (some ⟨gk, 0, none⟩) 67 67))) (by exact run_builtOp 28 #[(0, .const (.int .u32 1)), (5, .tmp 1), (6, .tmp 2)] rfl _ (by with_unfolding_all exact Try.built56 _ _ _ _ _ _)) ?_
    refine hKK _ _ (.inr trivial) ?_
    clear hKK KK
    try simp only [Act.put, List.setIfInBounds_toArray, List.set_cons_zero, List.set_cons_succ]
    refine walkS_only (i := 3) (o := ⟨none, _, _, _, _, _⟩) (by kernel_rfl) rfl rfl fun KK hKK => ?_
    have hs : g0 = w.heap.size := n0.spot
    have r0 : RowAt w2 g0 28 (frC zeroFr nilS nilS) := (RowAt.kept n0.row.drew n1.below).kept n2.below
    refine wp_store_row 28 (.tmp 0) (.tmp 3) (by with_unfolding_all rfl) g0 28 (frC zeroFr nilS nilS) (frC (exFr 64 zerosK) (.slice (some ⟨gb, 0, none⟩) 64 64) (.slice (some ⟨gk, 0, none⟩) 67 67)) (by with_unfolding_all rfl) (by with_unfolding_all rfl) r0 (by rw [frC_size zeroFr_ok, frC_size (exFr_ok _ _)]) (Try.sizeFr (exFr_ok _ _) _ _) (frC_one _ _ _ rfl rfl) fun w3 p3 => ?_
    refine hKK _ _ (.inr trivial) (walkS_done (by kernel_rfl) ?_ _)
    clear hKK KK
    have hb0 : Below w.heap.size w w0 := n0.below
    have hb2 : Below w.heap.size w w2 := below_size (below_size hb0.drew (n1.below)) n2.below
    have hb3 := p3.below hb2 hb2.size (by omega)
    have hl : g0 < w0.heap.size := n0.row.lt
    have s1 := n1.spot
    have s2 := n2.spot
    have z1 := n1.below.size
    have e1 : w0.drew.heap.size = w0.heap.size := rfl
    have rb := n1.row.kept n2.below
    have rk := n2.row
    go_wp2
    refine bodyPost_ret (results_cell_row rfl _ _ g0 28 (frC (exFr 64 zerosK) (.slice (some ⟨gb, 0, none⟩) 64 64) (.slice (some ⟨gk, 0, none⟩) 67 67)) (0, 0) _ (by rfl) p3.row Try.underlying28 rfl (Try.sizeFr (exFr_ok _ _) _ _)) rfl ?_
    refine ⟨_, rfl, ⟨_, _, rfl, exFr_ok _ _, ?_, ?_⟩, hb3⟩
    · have := Bs.of_row (rb.grown p3.grown (by intro e; injection e with e; omega)) (by rw [zerosB_length]; omega)
      rwa [zerosB_length] at this
    · have := Kl.of_row (rk.grown p3.grown (by intro e; injection e with e; omega)) zerosK_len (by simp [zerosK])
      rwa [show zerosK.length = 67 by simp [zerosK]] at this
  · refine wp_make 26 24 (.const (.int .i64 67)) (.const (.int .i64 67)) rfl 67 67 (by with_unfolding_all rfl) (by with_unfolding_all rfl) Try.underlying26 (.agg (keyC zeroKey)) 32 32 Try.infoKey (keyC zerosK.flatten) made67 (by decide) (by decide) (by decide) fun gk w1 n1 => ?_
    refine hKK _ _ (.inr trivial) ?_
    clear hKK KK
    try simp only [Act.put, List.setIfInBounds_toArray, List.set_cons_zero, List.set_cons_succ]
    refine walkS_only (i := 0) (o := ⟨some 1, _, _, _, _, _⟩) (by kernel_rfl) rfl rfl fun KK hKK => ?_
    refine wp_make 25 5 (.const (.int .i64 64)) (.const (.int .i64 64)) rfl 64 64 (by with_unfolding_all rfl) (by with_unfolding_all rfl) Try.underlying25 (.int .u8 0) 1 1 Try.infoBy (cellsB (zerosB 64)).toArray made64 (by decide) (by decide) (by decide) fun gb w2 n2 => ?_
    refine hKK _ _ (.inr trivial) ?_
    clear hKK KK
    try simp only [Act.put, List.setIfInBounds_toArray, List.set_cons_zero, List.set_cons_succ]
    refine walkS_only (i := 2) (o := ⟨some 3, _, _, _, _, _⟩) (by kernel_rfl) rfl rfl fun KK hKK => ?_
    refine wp_val (.agg (frC (exFr 64 zerosK) (.slice (some ⟨gb, 0, none⟩) 64 64) (.slice (some ⟨gk, 0, none⟩) 67 67))) (by exact run_builtOp 28 #[(0, .const (.int .u32 1)), (5, .tmp 1), (6, .tmp 2)] rfl _ (by with_unfolding_all exact Try.built56 _ _ _ _ _ _)) ?_
    refine hKK _ _ (.inr trivial) ?_
    clear hKK KK
    try simp only [Act.put, List.setIfInBounds_toArray, List.set_cons_zero, List.set_cons_succ]
    refine walkS_only (i := 3) (o := ⟨none, _, _, _, _, _⟩) (by kernel_rfl) rfl rfl fun KK hKK => ?_
    have hs : g0 = w.heap.size := n0.spot
    have r0 : RowAt w2 g0 28 (frC zeroFr nilS nilS) := (RowAt.kept n0.row.drew n1.below).kept n2.below
    refine wp_store_row 28 (.tmp 0) (.tmp 3) (by with_unfolding_all rfl) g0 28 (frC zeroFr nilS nilS) (frC (exFr 64 zerosK) (.slice (some ⟨gb, 0, none⟩) 64 64) (.slice (some ⟨gk, 0, none⟩) 67 67)) (by with_unfolding_all rfl) (by with_unfolding_all rfl) r0 (by rw [frC_size zeroFr_ok, frC_size (exFr_ok _ _)]) (Try.sizeFr (exFr_ok _ _) _ _) (frC_one _ _ _ rfl rfl) fun w3 p3 => ?_
    refine hKK _ _ (.inr trivial) (walkS_done (by kernel_rfl) ?_ _)
    clear hKK KK
    have hb0 : Below w.heap.size w w0 := n0.below
    have hb2 : Below w.heap.size w w2 := below_size (below_size hb0.drew (n1.below)) n2.below
    have hb3 := p3.below hb2 hb2.size (by omega)
    have hl : g0 < w0.heap.size := n0.row.lt
    have s1 := n1.spot
    have s2 := n2.spot
    have z1 := n1.below.size
    have e1 : w0.drew.heap.size = w0.heap.size := rfl
    have rk := n1.row.kept n2.below
    have rb := n2.row
    go_wp2
    refine bodyPost_ret (results_cell_row rfl _ _ g0 28 (frC (exFr 64 zerosK) (.slice (some ⟨gb, 0, none⟩) 64 64) (.slice (some ⟨gk, 0, none⟩) 67 67)) (0, 0) _ (by rfl) p3.row Try.underlying28 rfl (Try.sizeFr (exFr_ok _ _) _ _)) rfl ?_
    refine ⟨_, rfl, ⟨_, _, rfl, exFr_ok _ _, ?_, ?_⟩, hb3⟩
    · have := Bs.of_row (rb.grown p3.grown (by intro e; injection e with e; omega)) (by rw [zerosB_length]; omega)
      rwa [zerosB_length] at this
    · have := Kl.of_row (rk.grown p3.grown (by intro e; injection e with e; omega)) zerosK_len (by simp [zerosK])
      rwa [show zerosK.length = 67 by simp [zerosK]] at this

set_option maxHeartbeats 4000000 in
theorem awake_true (w : World) : Calls Try.prog 9 #[] w (RetV w (.bool true)) := by
  have C0 : Hid (∀ w v f E, checkE f = E → FrV w v f → Calls Try.prog 11 #[v] w fun e w' => e = .returned (.int .i64 E) ∧ Below w.heap.size w w') := fun w v f E hE h => by rw [← hE]; exact check_any w v f h
  have CS : Hid (∀ w, Calls Try.prog 24 #[] w fun e w' => ∃ u, e = .returned u ∧ FrV w' u (exFr 64 zerosK) ∧ Below w.heap.size w w') := fun w => some_any w
  have CE : Hid (∀ w v, FrV w v (exFr 64 zerosK) → Calls Try.prog 14 #[v] w fun e w' => ∃ A c, e = .returned (.tuple #[.slice A 2319 c, .int .i64 0]) ∧ Below w.heap.size w w') := fun w v h => (encode_any w v _ h).mono fun e w' ⟨u, he, hu, hb⟩ => by
    rw [ex_67] at he
    obtain ⟨A, c, rfl, _⟩ := hu
    rw [ex_len] at he
    exact ⟨A, c, he, hb⟩
  have CB : Hid (∀ w, Calls Try.prog 23 #[.agg (keyC exBu.flatten)] w fun e w' => ∃ u, e = .returned u ∧ Bs w' u (bunB exBu) ∧ Below w.heap.size w w') := fun w => encodeBundle_any w exBu exBu_ok
  have CD : Hid (∀ w u, Bs w u (bunB exBu) → Calls Try.prog 20 #[u] w fun e w' => e = .returned (.tuple #[.agg (keyC exBu.flatten), .int .i64 0]) ∧ Below w.heap.size w w') := fun w u h => (decodeBundle_any w u _ h (by rw [bunB_length exBu_ok]; omega)).mono fun e w' ⟨he, _, hb⟩ => by
    rw [(bd_enc exBu_ok).2, (bd_enc exBu_ok).1] at he
    exact ⟨he, hb⟩
  go_enter Try.func9, Try.ntmps9
  go_wp2_with (first
    | (with_reducible refine wpList_build0 (o := ⟨some 9, _, _, _, _, _⟩) rfl 28 rfl (frC zeroFr nilS nilS) Try.builtFr ?_))
  refine (C0.out _ _ zeroFr 51 ex_zero ⟨_, _, rfl, zeroFr_ok, Bs.nil _, Kl.nil _⟩).mono ?_
  intro e w1 hh
  obtain ⟨he, b1⟩ := hh
  subst he
  have B1 := Lib.hid b1
  clear b1
  go_wp2_with (first
    | ((with_reducible refine wpList_make (o := ⟨some 11, _, _, _, _, _⟩) rfl 25 5 (.const (.int .i64 63)) (.const (.int .i64 63)) rfl 63 63 (by with_unfolding_all rfl) (by with_unfolding_all rfl) Try.underlying25 (.int .u8 0) 1 1 Try.infoBy (cellsB (zerosB 63)).toArray made63 (by decide) (by decide) (by decide) ?_); intro g2 w2 n2; have N2 := Lib.hid n2; clear n2)
    | (with_reducible refine wpList_buildTo (o := ⟨some 12, _, _, _, _, _⟩) rfl 28 _ rfl (some 12) rfl (frC (exFr 63 []) (.slice (some ⟨g2, 0, none⟩) 63 63) nilS) (by with_unfolding_all exact Try.built5 _ _ _) ?_))
  refine (C0.out _ _ (exFr 63 []) 3 ex_63 ⟨_, _, rfl, exFr_ok _ _, by have := Bs.of_row N2.out.row (by rw [zerosB_length]; omega); rwa [zerosB_length] at this, Kl.nil _⟩).mono ?_
  intro e w3 hh
  obtain ⟨he, b1⟩ := hh
  subst he
  have B3 := Lib.hid (below_size (below_size B1.out N2.out.below) b1)
  clear b1 B1 N2
  go_wp2_with (first
    | ((with_reducible refine wpList_make (o := ⟨some 14, _, _, _, _, _⟩) rfl 25 5 (.const (.int .i64 64)) (.const (.int .i64 64)) rfl 64 64 (by with_unfolding_all rfl) (by with_unfolding_all rfl) Try.underlying25 (.int .u8 0) 1 1 Try.infoBy (cellsB (zerosB 64)).toArray made64 (by decide) (by decide) (by decide) ?_); intro g4 w4 n4; have N4 := Lib.hid n4; clear n4)
    | (with_reducible refine wpList_buildTo (o := ⟨some 15, _, _, _, _, _⟩) rfl 28 _ rfl (some 15) rfl (frC (exFr 64 []) (.slice (some ⟨g4, 0, none⟩) 64 64) nilS) (by with_unfolding_all exact Try.built5 _ _ _) ?_))
  refine (C0.out _ _ (exFr 64 []) 40 ex_64 ⟨_, _, rfl, exFr_ok _ _, by have := Bs.of_row N4.out.row (by rw [zerosB_length]; omega); rwa [zerosB_length] at this, Kl.nil _⟩).mono ?_
  intro e w5 hh
  obtain ⟨he, b1⟩ := hh
  subst he
  have B5 := Lib.hid (below_size (below_size B3.out N4.out.below) b1)
  clear b1 B3 N4
  go_wp2_with fail
  refine (CS.out _).mono ?_
  intro e w6 hh
  obtain ⟨u, he, hu, b1⟩ := hh
  subst he
  have B6 := Lib.hid (below_size B5.out b1)
  have HU := Lib.hid hu
  obtain ⟨_, _, rfl, _⟩ := hu
  clear b1 B5
  go_wp2_with fail
  refine (CE.out _ _ HU.out).mono ?_
  intro e w7 hh
  obtain ⟨DA, dc, he, b1⟩ := hh
  subst he
  have B7 := Lib.hid (below_size B6.out b1)
  clear b1 B6 HU
  go_wp2_with (first
    | (with_reducible refine wpList_buildTo (o := ⟨some 22, _, _, _, _, _⟩) rfl 24 _ rfl (some 22) rfl (keyC key1) (by with_unfolding_all exact Try.built1) ?_)
    | (with_reducible refine wpList_buildTo (o := ⟨some 23, _, _, _, _, _⟩) rfl 24 _ rfl (some 23) rfl (keyC key2) (by with_unfolding_all exact Try.built2) ?_)
    | (with_reducible refine wpList_buildTo (o := ⟨some 24, _, _, _, _, _⟩) rfl 39 _ rfl (some 24) rfl (keyC exBu.flatten) (by with_unfolding_all exact Try.builtEx) ?_)
    | ((with_reducible refine wpList_alloc_row (o := ⟨some 6, _, _, _, _, _⟩) rfl 39 rfl (keyC zeroBu.flatten) Try.zeroOfBu ?_); intro g8 w8 n8; have N8 := Lib.hid n8; clear n8)
    | ((with_reducible refine wpList_store_row (o := ⟨none, _, _, _, _, _⟩) rfl 39 (.tmp 6) (.tmp 24) rfl g8 39 (keyC zeroBu.flatten) (keyC exBu.flatten) (by with_unfolding_all rfl) (by with_unfolding_all rfl) (by with_unfolding_all exact N8.out.row) (by rw [zeroBu_ok.size, exBu_ok.size]) (Try.sizeBu exBu_ok) (keyC_one _) ?_); intro w9 p9; have P9 := Lib.hid p9; clear p9)
    | (with_reducible refine wpList_load_row (o := ⟨some 26, _, _, _, _, _⟩) rfl 39 (.tmp 6) rfl g8 (by with_unfolding_all rfl) 39 (keyC exBu.flatten) (0, 0) _ (by with_unfolding_all exact P9.out.row) Try.underlying39 rfl (Try.sizeBu exBu_ok) ?_))
  have B9 := Lib.hid (P9.out.below (below_size B7.out N8.out.below) (below_size B7.out N8.out.below).size (by have := N8.out.spot; have := B7.out.size; omega))
  have R9 := Lib.hid P9.out.row
  clear B7 N8 P9
  refine (CB.out _).mono ?_
  intro e w10 hh
  obtain ⟨u, he, hu, b1⟩ := hh
  subst he
  have B10 := Lib.hid (below_size B9.out b1)
  have R10 := Lib.hid (R9.out.kept b1)
  have HU := Lib.hid hu
  obtain ⟨_, _, rfl, _⟩ := hu
  clear b1 B9 R9
  go_wp2_with fail
  refine (CD.out _ _ HU.out).mono ?_
  intro e w11 hh
  obtain ⟨he, b1⟩ := hh
  subst he
  have B11 := Lib.hid (below_size B10.out b1)
  have R11 := Lib.hid (R10.out.kept b1)
  clear b1 B10 R10 HU
  go_wp2_with (first
    | ((with_reducible refine wpList_alloc_row (o := ⟨some 7, _, _, _, _, _⟩) rfl 39 rfl (keyC zeroBu.flatten) Try.zeroOfBu ?_); intro g12 w12 n12; have N12 := Lib.hid n12; clear n12)
    | ((with_reducible refine wpList_store_row (o := ⟨none, _, _, _, _, _⟩) rfl 39 (.tmp 7) (.tmp 29) rfl g12 39 (keyC zeroBu.flatten) (keyC exBu.flatten) ?h1 ?h2 ?h3 ?h4 ?h5 ?h6 ?h7); (case h1 => with_unfolding_all rfl); (case h2 => with_unfolding_all rfl); (case h3 => exact N12.out.row); (case h4 => rw [zeroBu_ok.size, exBu_ok.size]); (case h5 => exact Try.sizeBu exBu_ok); (case h6 => exact keyC_one _); intro w13 p13; have P13 := Lib.hid p13; have B13 := Lib.hid (p13.below (below_size B11.out N12.out.below) (below_size B11.out N12.out.below).size (by have := N12.out.spot; have := B11.out.size; omega)); have R13 := Lib.hid ((R11.out.kept N12.out.below).grown p13.grown (by have := N12.out.spot; have := R11.out.lt; intro e; injection e with e; omega)); clear p13; have HQ := Lib.hid (show (Op.equalIn 10000 39 (.agg (keyC exBu.flatten)) (.agg (keyC exBu.flatten))).run Try.prog w13 = .ok true w13 from (by rw [Try.eqBu w13 exBu exBu exBu_ok exBu_ok, beq_self_eq_true])))
    | (with_reducible refine wpListG_load_row (o := ⟨some 51, _, _, _, _, _⟩) 39 (.tmp 6) rfl (by with_unfolding_all rfl) g8 (by with_unfolding_all rfl) 39 (keyC exBu.flatten) _ (by with_unfolding_all exact R13.out) Try.underlying39 rfl (Try.sizeBu exBu_ok) ?_)
    | (with_reducible refine wpListG_load_row (o := ⟨some 52, _, _, _, _, _⟩) 39 (.tmp 7) rfl (by with_unfolding_all rfl) g12 (by with_unfolding_all rfl) 39 (keyC exBu.flatten) _ (by with_unfolding_all exact P13.out.row) Try.underlying39 rfl (Try.sizeBu exBu_ok) ?_)
    | (with_reducible refine wpListG_val (o := ⟨some 53, _, _, _, _, _⟩) (by with_unfolding_all rfl) (.bool true) (by with_unfolding_all exact eqBu_run .eql (.inl rfl) (.tmp 51) (.tmp 52) _ rfl (keyC exBu.flatten) (keyC exBu.flatten) true HQ.out rfl rfl) ?_))
  go_ret
  exact ⟨rfl, B13.out⟩
end Go.Proofs.Ytmhhjdiilmgmoaa
end
section
namespace Go.Proofs.Ytmhhjdiilmgmoaa
open Go.RowKit
set_option linter.unusedVariables false
set_option maxRecDepth 20000

set_option maxHeartbeats 4000000 in
theorem refCore_any (w : World) (v : Value) (f : Fr) (h : FrV w v f) :
    Calls Try.prog 13 #[v] w fun e w' => ∃ u, e = .returned (.tuple #[u, .int .i64 (shapeE f)]) ∧ Bs w' u (coreO f) ∧ U8At w' u ∧ Below w.heap.size w w' := by
  obtain ⟨bv, sv, rfl, ho, h1, h2⟩ := h
  have HO := Lib.hid ho
  have H1 := Lib.hid h1
  have H2 := Lib.hid h2
  have HS : Hid (∀ w v, FrV w v f → Calls Try.prog 28 #[v] w fun e w' => e = .returned (.int .i64 (shapeE f)) ∧ Below w.heap.size w w') := fun w v h => refShape_any w v f h
  obtain ⟨A, c, rfl, _, q2, _⟩ := h1
  obtain ⟨B, d, rfl, _, q3, _⟩ := h2
  have HV : Hid (∀ w', Below w.heap.size w w' → FrV w' (.agg (frC f (.slice A f.box.length c) (.slice B f.sign.length d))) f) := fun w' hb => ⟨_, _, rfl, HO.out, H1.out.below hb, H2.out.below hb⟩
  clear q2 q3
  obtain ⟨s1, E1⟩ : ∃ s1, s1 = (St.mk [] 0).wNum 1 1 := ⟨_, rfl⟩
  obtain ⟨s2, E2⟩ : ∃ s2, s2 = s1.wNum f.n 4 := ⟨_, rfl⟩
  obtain ⟨s3, E3⟩ : ∃ s3, s3 = s2.wNum f.ack 4 := ⟨_, rfl⟩
  obtain ⟨s4, E4⟩ : ∃ s4, s4 = s3.wKey [f.eph, f.epoch, f.next] := ⟨_, rfl⟩
  have h32 : ∀ l ∈ [f.eph, f.epoch, f.next], l.length = 32 := by
    intro l hl
    simp only [List.mem_cons, List.not_mem_nil, or_false] at hl
    rcases hl with rfl | rfl | rfl
    · exact ho.eph
    · exact ho.epoch
    · exact ho.next
  have k1 : s1.l.length ≤ 8 := by rw [E1]; exact Nat.le_trans (wNum_len _ 1 1 (by decide)) (by simp)
  have k2 : s2.l.length ≤ 16 := by rw [E2]; exact Nat.le_trans (wNum_len _ _ 4 (by decide)) (by omega)
  have k3 : s3.l.length ≤ 24 := by rw [E3]; exact Nat.le_trans (wNum_len _ _ 4 (by decide)) (by omega)
  have k4 : s4.l.length ≤ 3226 := by rw [E4]; exact Nat.le_trans (wKey_len _ _ h32) (by omega)
  have N1 : Hid (∀ w r, RoAt w r ⟨[], 0⟩ (fun _ => False) → Calls Try.prog 29 #[.pointer (some ⟨r, 0, none⟩), .int .u64 1, .int .i64 1] w fun e w' => e = .returned (.tuple #[]) ∧ RoAt w' r s1 (fun _ => False) ∧ w.grownBy w' (some r)) := fun w r h => by rw [E1]; exact roNumber_any w _ r _ 1 1 (by omega) h (by simp) (fun _ h => h.elim)
  have N2 : Hid (∀ w r, RoAt w r s1 (fun _ => False) → Calls Try.prog 29 #[.pointer (some ⟨r, 0, none⟩), .int .u64 (f.n : Int), .int .i64 4] w fun e w' => e = .returned (.tuple #[]) ∧ RoAt w' r s2 (fun _ => False) ∧ w.grownBy w' (some r)) := fun w r h => by rw [E2]; exact roNumber_any w _ r _ f.n 4 (by have := ho.n; omega) h (by omega) (fun _ h => h.elim)
  have N3 : Hid (∀ w r, RoAt w r s2 (fun _ => False) → Calls Try.prog 29 #[.pointer (some ⟨r, 0, none⟩), .int .u64 (f.ack : Int), .int .i64 4] w fun e w' => e = .returned (.tuple #[]) ∧ RoAt w' r s3 (fun _ => False) ∧ w.grownBy w' (some r)) := fun w r h => by rw [E3]; exact roNumber_any w _ r _ f.ack 4 (by have := ho.ack; omega) h (by omega) (fun _ h => h.elim)
  have N4 : Hid (∀ w r g, RoAt w r s3 (fun _ => False) → RowAt w g 24 (keyC [f.eph, f.epoch, f.next].flatten) → Calls Try.prog 30 #[.pointer (some ⟨r, 0, none⟩), .slice (some ⟨g, 0, none⟩) 3 3] w fun e w' => e = .returned (.tuple #[]) ∧ RoAt w' r s4 (fun _ => False) ∧ w.grownBy w' (some r)) := fun w r g h hr => by rw [E4]; exact roKeys_any w _ r _ _ [f.eph, f.epoch, f.next] h (Kl.of_row hr h32 (by simp)) (by omega) (fun _ h => h.elim)
  have N5 : Hid (∀ w r u, RoAt w r s4 (fun _ => False) → Bs w u f.box → Calls Try.prog 31 #[.pointer (some ⟨r, 0, none⟩), u] w fun e w' => e = .returned (.tuple #[]) ∧ RoAt w' r (coreS f) (fun _ => False) ∧ w.grownBy w' (some r)) := fun w r u h hu => by
    have := roBytes_any w _ r _ u f.box h hu (by omega) (fun _ h => h.elim)
    rwa [show s4.wByt f.box = coreS f by rw [E4, E3, E2, E1]; rfl] at this
  have hn := ho.n
  have ha := ho.ack
  have H32 := Lib.hid h32
  clear k1 k2 k3 k4 h32 E1 E2 E3 E4 ho
  by_cases a0 : shapeE f = 0
  · have EL : Hid (coreO f = coreB f) := if_pos a0
    have EC : Hid (coreS f = ⟨coreB f, 0⟩) := core_ok a0
    rw [a0] at HS ⊢
    clear a0
    go_enter Try.func13, Try.ntmps13
    go_wp2_with (first
      | ((with_reducible refine wpList_box_row (o := ⟨some 1, _, _, _, _, _⟩) rfl 28 (.tmp 0) rfl (frC f (.slice A f.box.length c) (.slice B f.sign.length d)) (by with_unfolding_all rfl) ?_); intro g1 w1 n1; have HR : Hid (FrAt w1 g1 f (.slice A f.box.length c) (.slice B f.sign.length d)) := n1.row; have HB := Lib.hid n1.below; clear n1)
      | (with_reducible refine wpList_load_row (o := ⟨some 6, _, _, _, _, _⟩) rfl 28 (.tmp 1) rfl g1 (by with_unfolding_all rfl) 28 (frC f (.slice A f.box.length c) (.slice B f.sign.length d)) (0, 0) _ (by with_unfolding_all exact HR.out) Try.underlying28 rfl (Try.sizeFr HO.out _ _) ?_))
    refine (HS.out _ _ (HV.out _ HB.out)).mono ?_
    intro e w2 hh
    obtain ⟨he, b2⟩ := hh
    subst he
    have HR2 : Hid (FrAt w2 g1 f (.slice A f.box.length c) (.slice B f.sign.length d)) := RowAt.kept HR.out b2
    have B2 := Lib.hid (below_size HB.out b2)
    clear b2 HR HB
    go_wp2_with (first
      | ((with_reducible refine wpList_box_row (o := ⟨some 12, _, _, _, _, _⟩) rfl 53 (.tmp 11) rfl #[.slice none 0 0, .int .i64 0] (by with_unfolding_all rfl) ?_); intro r w3 n3; have M3 := Lib.hid n3; clear n3))
    have R3 : Hid (RoAt w3 r ⟨[], 0⟩ (fun _ => False)) := ⟨_, [], M3.out.row, Bs.nil _, fun _ => rfl, U8At.nil _ _ _, fun _ _ h => h⟩
    have FR3 : Hid (FrAt w3 g1 f (.slice A f.box.length c) (.slice B f.sign.length d)) := RowAt.kept HR2.out M3.out.below
    have B3 := Lib.hid (below_size B2.out M3.out.below)
    have hr3 : w.heap.size ≤ r ∧ g1 ≠ r := by
      have h1 := M3.out.spot
      have h2 := B2.out.size
      have h3 := HR2.out.lt
      omega
    clear M3 HR2 B2
    refine (N1.out _ _ R3.out).mono ?_
    intro e w4 hh
    obtain ⟨he, h3, s3'⟩ := hh
    subst he
    have R4 := Lib.hid h3
    have FR4 : Hid (FrAt w4 g1 f (.slice A f.box.length c) (.slice B f.sign.length d)) := RowAt.grown FR3.out s3' (by intro e; injection e with e; exact hr3.2 e)
    have B4 := Lib.hid (B3.out.grown s3' B3.out.size (fun k e => by injection e with e; have := hr3.1; omega))
    clear R3 FR3 B3 h3 s3'
    have c0 := FR4.out.n
    go_wp2_with fail
    refine (N2.out _ _ R4.out).mono ?_
    intro e w5 hh
    obtain ⟨he, h3, s3'⟩ := hh
    subst he
    have R5 := Lib.hid h3
    have FR5 : Hid (FrAt w5 g1 f (.slice A f.box.length c) (.slice B f.sign.length d)) := RowAt.grown FR4.out s3' (by intro e; injection e with e; exact hr3.2 e)
    have B5 := Lib.hid (B4.out.grown s3' B4.out.size (fun k e => by injection e with e; have := hr3.1; omega))
    clear R4 FR4 B4 h3 s3' c0
    have c1 := FR5.out.ack
    go_wp2_with fail
    refine (N3.out _ _ R5.out).mono ?_
    intro e w6 hh
    obtain ⟨he, h3, s3'⟩ := hh
    subst he
    have R6 := Lib.hid h3
    have FR6 : Hid (FrAt w6 g1 f (.slice A f.box.length c) (.slice B f.sign.length d)) := RowAt.grown FR5.out s3' (by intro e; injection e with e; exact hr3.2 e)
    have B6 := Lib.hid (B5.out.grown s3' B5.out.size (fun k e => by injection e with e; have := hr3.1; omega))
    clear R5 FR5 B5 h3 s3' c1
    go_wp2_with (first
      | (with_reducible refine wpList_loadK (o := ⟨some 27, _, _, _, _, _⟩) rfl 24 (.tmp 26) rfl g1 2 (by with_unfolding_all rfl) f.eph _ (by with_unfolding_all exact FR6.out.eph) Try.underlying24 rfl (Try.sizeKeyM _ HO.out.eph) ?_)
      | (with_reducible refine wpList_loadK (o := ⟨some 29, _, _, _, _, _⟩) rfl 24 (.tmp 28) rfl g1 34 (by with_unfolding_all rfl) f.epoch _ (by with_unfolding_all exact FR6.out.epoch HO.out) Try.underlying24 rfl (Try.sizeKeyM _ HO.out.epoch) ?_)
      | (with_reducible refine wpList_loadK (o := ⟨some 31, _, _, _, _, _⟩) rfl 24 (.tmp 30) rfl g1 66 (by with_unfolding_all rfl) f.next _ (by with_unfolding_all exact FR6.out.next HO.out) Try.underlying24 rfl (Try.sizeKeyM _ HO.out.next) ?_)
      | ((with_reducible refine wpList_buildKeys (o := ⟨some 32, _, _, _, _, _⟩) rfl 26 24 3 _ rfl [f.eph, f.epoch, f.next] H32.out (by with_unfolding_all rfl) (by decide) (by decide) (by with_unfolding_all rfl) Try.underlying26 Try.sizeK (keyC zeroKey) Try.zeroK ?_); intro g6 w7 n6; have M6 := Lib.hid n6; clear n6))
    have R7 := Lib.hid (R6.out.kept M6.out.below)
    have FR7 : Hid (FrAt w7 g1 f (.slice A f.box.length c) (.slice B f.sign.length d)) := RowAt.kept FR6.out M6.out.below
    have B7 := Lib.hid (below_size B6.out M6.out.below)
    clear R6 FR6 B6
    refine (N4.out _ _ _ R7.out M6.out.row).mono ?_
    intro e w8 hh
    obtain ⟨he, h3, s3'⟩ := hh
    subst he
    have R8 := Lib.hid h3
    have FR8 : Hid (FrAt w8 g1 f (.slice A f.box.length c) (.slice B f.sign.length d)) := RowAt.grown FR7.out s3' (by intro e; injection e with e; exact hr3.2 e)
    have B8 := Lib.hid (B7.out.grown s3' B7.out.size (fun k e => by injection e with e; have := hr3.1; omega))
    clear R7 FR7 B7 h3 s3'
    have c2 := FR8.out.box HO.out
    clear M6
    go_wp2_with fail
    refine (N5.out _ _ _ R8.out (H1.out.below B8.out)).mono ?_
    intro e w9 hh
    obtain ⟨he, h3, s3'⟩ := hh
    subst he
    have R9 := Lib.hid h3
    have FR9 : Hid (FrAt w9 g1 f (.slice A f.box.length c) (.slice B f.sign.length d)) := RowAt.grown FR8.out s3' (by intro e; injection e with e; exact hr3.2 e)
    have B9 := Lib.hid (B8.out.grown s3' B8.out.size (fun k e => by injection e with e; have := hr3.1; omega))
    clear R8 FR8 B8 h3 s3' c2
    obtain ⟨v9, L9, hr9, hb9, hl9, hu9, _⟩ := R9.out
    have c9 : w9.cell? ⟨r, 0, none⟩ = some v9 := hr9.cell 0
    have HB9 : Hid (Bs w9 v9 (coreB f)) := by
      have e : L9 = coreB f := by rw [hl9 (by rw [EC.out]), EC.out]
      rwa [e] at hb9
    have HU9 := Lib.hid hu9
    clear hb9 hl9 hu9 hr9
    obtain ⟨A9, n9, rfl, _⟩ := id HB9.out
    go_wp2
    go_ret2
    exact ⟨_, rfl, by rw [EL.out]; exact HB9.out, HU9.out, B9.out⟩
  · have EL : Hid (coreO f = []) := if_neg a0
    have hd : (shapeE f != 0) = true := by simpa using a0
    obtain ⟨x, hx⟩ : ∃ x, x = shapeE f := ⟨_, rfl⟩
    rw [← hx] at HS hd ⊢
    clear a0 hx
    go_enter Try.func13, Try.ntmps13
    go_wp2_with (first
      | ((with_reducible refine wpList_box_row (o := ⟨some 1, _, _, _, _, _⟩) rfl 28 (.tmp 0) rfl (frC f (.slice A f.box.length c) (.slice B f.sign.length d)) (by with_unfolding_all rfl) ?_); intro g1 w1 n1; have HR : Hid (FrAt w1 g1 f (.slice A f.box.length c) (.slice B f.sign.length d)) := n1.row; have HB := Lib.hid n1.below; clear n1)
      | (with_reducible refine wpList_load_row (o := ⟨some 6, _, _, _, _, _⟩) rfl 28 (.tmp 1) rfl g1 (by with_unfolding_all rfl) 28 (frC f (.slice A f.box.length c) (.slice B f.sign.length d)) (0, 0) _ (by with_unfolding_all exact HR.out) Try.underlying28 rfl (Try.sizeFr HO.out _ _) ?_))
    refine (HS.out _ _ (HV.out _ HB.out)).mono ?_
    intro e w2 hh
    obtain ⟨he, b2⟩ := hh
    subst he
    have B2 := Lib.hid (below_size HB.out b2)
    clear b2 HR
    go_wp2
    go_ret2
    exact ⟨_, rfl, by rw [EL.out]; exact Bs.nil _, U8At.nil _ _ _, B2.out⟩
set_option maxHeartbeats 4000000 in
theorem refEncode_any (w : World) (v : Value) (f : Fr) (h : FrV w v f) :
    Calls Try.prog 15 #[v] w fun e w' => ∃ u, e = .returned (.tuple #[u, .int .i64 (checkE f)]) ∧ Bs w' u (encO f) ∧ U8At w' u ∧ Below w.heap.size w w' := by
  obtain ⟨bv, sv, rfl, ho, h1, h2⟩ := h
  have HO := Lib.hid ho
  have H1 := Lib.hid h1
  have H2 := Lib.hid h2
  have HS : Hid (∀ w v, FrV w v f → Calls Try.prog 16 #[v] w fun e w' => e = .returned (.int .i64 (checkE f)) ∧ Below w.heap.size w w') := fun w v h => refCheck_any w v f h
  have HC : Hid (∀ w v, FrV w v f → Calls Try.prog 13 #[v] w fun e w' => ∃ u, e = .returned (.tuple #[u, .int .i64 (shapeE f)]) ∧ Bs w' u (coreO f) ∧ U8At w' u ∧ Below w.heap.size w w') := fun w v h => refCore_any w v f h
  obtain ⟨A, c, rfl, _, q2, _⟩ := h1
  obtain ⟨B, d, rfl, _, q3, _⟩ := h2
  have HV : Hid (∀ w', Below w.heap.size w w' → FrV w' (.agg (frC f (.slice A f.box.length c) (.slice B f.sign.length d))) f) := fun w' hb => ⟨_, _, rfl, HO.out, H1.out.below hb, H2.out.below hb⟩
  clear q2 q3
  by_cases a0 : checkE f = 0
  · have EL : Hid (encO f = encB f) := if_pos a0
    have hl : (coreB f).length ≤ 1000 := by have := coreB_length HO.out; have := shape_zero (check_zero a0).1; omega
    have HK : Hid (∀ w r u, RoAt w r ⟨coreB f, 0⟩ (fun _ => False) → Kl w u f.sign → Calls Try.prog 30 #[.pointer (some ⟨r, 0, none⟩), u] w fun e w' => e = .returned (.tuple #[]) ∧ RoAt w' r ⟨encB f, 0⟩ (fun _ => False) ∧ w.grownBy w' (some r)) := fun w r u h hu => by
      have := roKeys_any w _ r _ u f.sign h hu (by show (coreB f).length ≤ _; omega) (fun _ h => h.elim)
      rwa [← core_ok (check_zero a0).1, enc_ok a0] at this
    have EO : coreO f = coreB f := if_pos (check_zero a0).1
    rw [EO, (check_zero a0).1] at HC
    rw [a0] at HS ⊢
    clear a0 hl EO ho
    go_enter Try.func15, Try.ntmps15
    go_wp2_with (first
      | ((with_reducible refine wpList_box_row (o := ⟨some 1, _, _, _, _, _⟩) rfl 28 (.tmp 0) rfl (frC f (.slice A f.box.length c) (.slice B f.sign.length d)) (by with_unfolding_all rfl) ?_); intro g1 w1 n1; have HR : Hid (FrAt w1 g1 f (.slice A f.box.length c) (.slice B f.sign.length d)) := n1.row; have HB := Lib.hid n1.below; clear n1)
      | (with_reducible refine wpList_load_row (o := ⟨some 8, _, _, _, _, _⟩) rfl 28 (.tmp 1) rfl g1 (by with_unfolding_all rfl) 28 (frC f (.slice A f.box.length c) (.slice B f.sign.length d)) (0, 0) _ (by with_unfolding_all exact HR.out) Try.underlying28 rfl (Try.sizeFr HO.out _ _) ?_))
    refine (HS.out _ _ (HV.out _ HB.out)).mono ?_
    intro e w2 hh
    obtain ⟨he, b2⟩ := hh
    subst he
    have HR2 : Hid (FrAt w2 g1 f (.slice A f.box.length c) (.slice B f.sign.length d)) := RowAt.kept HR.out b2
    have B2 := Lib.hid (below_size HB.out b2)
    clear b2 HR HB
    go_wp2_with (first
      | (with_reducible refine wpList_load_row (o := ⟨some 14, _, _, _, _, _⟩) rfl 28 (.tmp 1) rfl g1 (by with_unfolding_all rfl) 28 (frC f (.slice A f.box.length c) (.slice B f.sign.length d)) (0, 0) _ (by with_unfolding_all exact HR2.out) Try.underlying28 rfl (Try.sizeFr HO.out _ _) ?_))
    refine (HC.out _ _ (HV.out _ B2.out)).mono ?_
    intro e w3 hh
    obtain ⟨u, he, hu, hu8, b3⟩ := hh
    subst he
    have HU := Lib.hid hu
    have HU8 := Lib.hid hu8
    have HR3 : Hid (FrAt w3 g1 f (.slice A f.box.length c) (.slice B f.sign.length d)) := RowAt.kept HR2.out b3
    have B3 := Lib.hid (below_size B2.out b3)
    clear b3 HR2 B2 hu hu8
    obtain ⟨UA, uc, rfl, _⟩ := id HU.out
    go_wp2_with (first
      | ((with_reducible refine wpList_box_row (o := ⟨some 20, _, _, _, _, _⟩) rfl 53 (.tmp 19) rfl #[.slice UA (coreB f).length uc, .int .i64 0] (by with_unfolding_all rfl) ?_); intro r w4 n3; have M3 := Lib.hid n3; clear n3; have FR4 : Hid (FrAt w4 g1 f (.slice A f.box.length c) (.slice B f.sign.length d)) := RowAt.kept HR3.out M3.out.below; have c3 := FR4.out.sign HO.out))
    have R4 : Hid (RoAt w4 r ⟨coreB f, 0⟩ (fun _ => False)) := ⟨_, _, M3.out.row, HU.out.below M3.out.below, fun _ => rfl, HU8.out.below M3.out.below, fun _ _ h => h⟩
    have B4 := Lib.hid (below_size B3.out M3.out.below)
    have hr3 : w.heap.size ≤ r := by
      have h1 := M3.out.spot
      have h2 := B3.out.size
      omega
    clear M3 HR3 B3 HU HU8
    refine (HK.out _ _ _ R4.out (H2.out.below B4.out)).mono ?_
    intro e w9 hh
    obtain ⟨he, h3, s3'⟩ := hh
    subst he
    have R9 := Lib.hid h3
    have B9 := Lib.hid (B4.out.grown s3' B4.out.size (fun k e => by injection e with e; omega))
    clear R4 FR4 B4 h3 s3' c3
    obtain ⟨v9, L9, hr9, hb9, hl9, hu9, _⟩ := R9.out
    have c9 : w9.cell? ⟨r, 0, none⟩ = some v9 := hr9.cell 0
    have HB9 : Hid (Bs w9 v9 (encB f)) := by
      have e : L9 = encB f := hl9 rfl
      rwa [e] at hb9
    have HU9 := Lib.hid hu9
    clear hb9 hl9 hu9 hr9
    obtain ⟨A9, n9, rfl, _⟩ := id HB9.out
    go_wp2
    go_ret2
    exact ⟨_, rfl, by rw [EL.out]; exact HB9.out, HU9.out, B9.out⟩
  · have EL : Hid (encO f = []) := if_neg a0
    have hd : (checkE f != 0) = true := by simpa using a0
    obtain ⟨x, hx⟩ : ∃ x, x = checkE f := ⟨_, rfl⟩
    rw [← hx] at HS hd ⊢
    clear a0 hx ho
    go_enter Try.func15, Try.ntmps15
    go_wp2_with (first
      | ((with_reducible refine wpList_box_row (o := ⟨some 1, _, _, _, _, _⟩) rfl 28 (.tmp 0) rfl (frC f (.slice A f.box.length c) (.slice B f.sign.length d)) (by with_unfolding_all rfl) ?_); intro g1 w1 n1; have HR : Hid (FrAt w1 g1 f (.slice A f.box.length c) (.slice B f.sign.length d)) := n1.row; have HB := Lib.hid n1.below; clear n1)
      | (with_reducible refine wpList_load_row (o := ⟨some 8, _, _, _, _, _⟩) rfl 28 (.tmp 1) rfl g1 (by with_unfolding_all rfl) 28 (frC f (.slice A f.box.length c) (.slice B f.sign.length d)) (0, 0) _ (by with_unfolding_all exact HR.out) Try.underlying28 rfl (Try.sizeFr HO.out _ _) ?_))
    refine (HS.out _ _ (HV.out _ HB.out)).mono ?_
    intro e w2 hh
    obtain ⟨he, b2⟩ := hh
    subst he
    have B2 := Lib.hid (below_size HB.out b2)
    clear b2 HR
    go_wp2
    go_ret2
    exact ⟨_, rfl, by rw [EL.out]; exact Bs.nil _, U8At.nil _ _ _, B2.out⟩
end Go.Proofs.Ytmhhjdiilmgmoaa
end
section
namespace Go.Proofs.Ytmhhjdiilmgmoaa
open Go.RowKit

theorem u8_of_wf {n : Int} (h : (Lit.int .u8 n).wf = true) : ((UInt8.ofNat n.toNat).toNat : Int) = n := by
  have hb := bounds_u8 h
  rw [UInt8.toNat_ofNat_of_lt' (by simp [UInt8.size]; omega)]
  omega
theorem u64_of_wf {n : Int} (h : (Lit.int .u64 n).wf = true) : ∃ k : Nat, n = (k : Int) ∧ k < 18446744073709551616 := by
  have hb := bounds_u64 h
  exact ⟨n.toNat, by omega, by omega⟩
theorem i64_of_wf {n : Int} (h : (Lit.int .i64 n).wf = true) : -9223372036854775808 ≤ n ∧ n ≤ 9223372036854775807 := by
  have hb := bounds_i64 h
  omega

theorem bs_of_ints {w : World} {x : Addr} {len cap : Nat} {zs : List Int} (hl : len ≤ cap) (hm : cap ≤ maxLen) (hz : zs.length = cap)
    (hcell : ∀ i, i < zs.length → w.cell? (x.add i) = some (.int .u8 (zs.getD i 0))) (hwz : ∀ n ∈ zs, (Lit.int .u8 n).wf = true) :
    ∃ l, Bs w (.slice (some x) len cap) l := by
  have hlen : ((zs.take len).map fun n => UInt8.ofNat n.toNat).length = len := by simp; omega
  refine ⟨(zs.take len).map fun n => UInt8.ofNat n.toNat, some x, cap, by rw [hlen], by rw [hlen]; exact hl, hm, fun h0 => ?_⟩
  rw [hlen] at h0
  obtain ⟨b, off, spot⟩ := x
  have hc := hcell 0 (by omega)
  have hspot : spot = none := by simpa [Addr.add] using World.cell?_spot hc
  subst hspot
  refine ⟨b, off, rfl, fun j hj => ?_⟩
  rw [hlen] at hj
  have hadd : (⟨b, off, none⟩ : Addr).add j = ⟨b, off + j, none⟩ := by unfold Addr.add; split <;> simp_all
  have hcj := hcell j (by omega)
  rw [hadd] at hcj
  rw [hcj]
  have hj2 : j < zs.length := by omega
  simp only [List.getElem_map, List.getElem_take, List.getD_eq_getElem?_getD, List.getElem?_eq_getElem hj2, Option.getD_some]
  rw [u8_of_wf (hwz _ (List.getElem_mem hj2))]
end Go.Proofs.Ytmhhjdiilmgmoaa
end
section
namespace Go.Proofs.Ytmhhjdiilmgmoaa
open Go.RowKit
set_option linter.unusedVariables false

theorem open_cells {H : Type} {enc : TypeId × Value → H} {P : Program} {W : World} {base b0 : Nat} {sp : Nat → Bool} {held : Bool} {t e : TypeId} {n : Nat} {k : IntKind} {v : Value} {d : DataW H} {ps : List MemPlace}
    (ht : P.underlying t = some (.array n e)) (he : P.underlying e = some (.int k)) (hce : P.cellsOf e = 1) (hval : Value.okWide P W .any b0 t v) (h : DataW.Trod enc P W base sp held t v d ps) :
    ∃ cs : Array Value, v = .agg cs ∧ cs.size = P.cellsOf t ∧ ∀ i, i < n → ∃ a, cs[i]? = some (.int k a) ∧ (Lit.int k a).wf = true := by
  obtain ⟨cs, rfl, hsz, _⟩ : ∃ cs, v = .agg cs ∧ cs.size = P.cellsOf t ∧ Row.okWide P W .any b0 t cs := by simpa [Value.okWide, ht] using hval
  obtain ⟨fuel, hf⟩ := h
  obtain ⟨xs, m, _, _, _, hl, hel⟩ := DataW.trod_array ht hf
  refine ⟨cs, rfl, hsz, fun i hi => ?_⟩
  have h1 := hel i hi
  rw [hce, List.getElem?_eq_getElem (by omega)] at h1
  obtain ⟨a, hc, _, hwf⟩ := DataW.trod_int he h1
  refine ⟨a, ?_, hwf⟩
  have := congrArg (·[0]?) hc
  simpa [List.getElem?_take, List.getElem?_drop, Value.cells] using this

theorem open_words {H : Type} {enc : TypeId × Value → H} {P : Program} {W : World} {base b0 : Nat} {sp : Nat → Bool} {held : Bool} {t e : TypeId} {n : Nat} {v : Value} {d : DataW H} {ps : List MemPlace}
    (ht : P.underlying t = some (.array n e)) (he : P.underlying e = some (.int .u32)) (hce : P.cellsOf e = 1) (hct : P.cellsOf t = n) (hval : Value.okWide P W .any b0 t v) (h : DataW.Trod enc P W base sp held t v d ps) :
    ∃ l : List UInt32, v = .agg (wordsC l) ∧ l.length = n := by
  obtain ⟨cs, rfl, hsz, hel⟩ := open_cells ht he hce hval h
  rw [hct] at hsz
  refine ⟨cs.toList.map fun v => match v with | .int _ a => UInt32.ofNat a.toNat | _ => 0, ?_, by simpa using hsz⟩
  congr 1
  apply Array.toList_inj.1
  simp only [wordsC, cellsW, List.map_map]
  apply List.ext_getElem (by simp)
  intro i h1 h2
  obtain ⟨a, hc, hwf⟩ := hel i (by simpa [hsz] using h1)
  have hb := bounds_u32 hwf
  have hci : cs.toList[i] = .int .u32 a := by
    have : cs[i]? = some cs.toList[i] := by simp [Array.getElem?_eq_getElem (show i < cs.size by simpa using h1)]
    rw [hc] at this
    injection this with this
    exact this.symm
  simp only [List.getElem_map, Function.comp_apply, hci]
  rw [UInt32.toNat_ofNat_of_lt' (by simp [UInt32.size]; omega)]
  congr 1
  omega
theorem open_key {H : Type} {enc : TypeId × Value → H} {P : Program} {W : World} {base b0 : Nat} {sp : Nat → Bool} {held : Bool} {t e : TypeId} {n : Nat} {v : Value} {d : DataW H} {ps : List MemPlace}
    (ht : P.underlying t = some (.array n e)) (he : P.underlying e = some (.int .u8)) (hce : P.cellsOf e = 1) (hct : P.cellsOf t = n) (hval : Value.okWide P W .any b0 t v) (h : DataW.Trod enc P W base sp held t v d ps) :
    ∃ l : List UInt8, v = keyV l ∧ l.length = n := by
  obtain ⟨cs, rfl, hsz, hel⟩ := open_cells ht he hce hval h
  rw [hct] at hsz
  refine ⟨cs.toList.map fun v => match v with | .int _ a => UInt8.ofNat a.toNat | _ => 0, ?_, by simpa using hsz⟩
  unfold keyV
  congr 1
  apply Array.toList_inj.1
  simp only [keyC, cellsB, List.map_map]
  apply List.ext_getElem (by simp)
  intro i h1 h2
  obtain ⟨a, hc, hwf⟩ := hel i (by simpa [hsz] using h1)
  have hb := bounds_u8 hwf
  have hci : cs.toList[i] = .int .u8 a := by
    have : cs[i]? = some cs.toList[i] := by simp [Array.getElem?_eq_getElem (show i < cs.size by simpa using h1)]
    rw [hc] at this
    injection this with this
    exact this.symm
  simp only [List.getElem_map, Function.comp_apply, hci]
  rw [UInt8.toNat_ofNat_of_lt' (by simp [UInt8.size]; omega)]
  congr 1
  omega
theorem u32_of_wf {n : Int} (h : (Lit.int .u32 n).wf = true) : ∃ c : UInt32, n = (c.toNat : Int) := by
  have hb := bounds_u32 h
  exact ⟨UInt32.ofNat n.toNat, by rw [UInt32.toNat_ofNat_of_lt' (by simp [UInt32.size]; omega)]; omega⟩

/-- Cut in pieces of m. -/
theorem chunked {α : Type} (m : Nat) : ∀ (rows : List (List α)) (cs : List α), cs.length = rows.length * m → (∀ i (h : i < rows.length), (cs.drop (i * m)).take m = rows[i]) → cs = rows.flatten := by
  intro rows
  induction rows with
  | nil =>
    intro cs hl _
    exact List.eq_nil_of_length_eq_zero (by simpa using hl)
  | cons r rows ih =>
    intro cs hl h
    have h0 := h 0 (by simp)
    simp only [Nat.zero_mul, List.drop_zero, List.getElem_cons_zero] at h0
    have hrest := ih (cs.drop m) (by rw [List.length_drop, hl, List.length_cons, Nat.succ_mul]; omega) (fun i hi => by
      have := h (i + 1) (by simpa using hi)
      rw [List.getElem_cons_succ] at this
      rw [← this, List.drop_drop, Nat.succ_mul, Nat.add_comm])
    rw [List.flatten_cons, ← h0, ← hrest, List.take_append_drop]
/-- A table of arrays reads as its rows. -/
theorem cells_of_rows {H : Type} {enc : TypeId × Value → H} {P : Program} {w : World} {base : Nat} {sp : Nat → Bool} {held : Bool} {fuel : Nat} {t e b : TypeId} {n m : Nat} {k : IntKind} {cs : List Value} {rows : List (List Int)} {p : List MemPlace}
    (ht : P.underlying t = some (.array n e)) (he : P.underlying e = some (.array m b)) (hb : P.underlying b = some (.int k)) (hcb : P.cellsOf b = 1) (hce : P.cellsOf e = m) (hct : P.cellsOf t = n * m) (hn : rows.length = n)
    (h : DataW.trod enc P w base sp held fuel t cs = some (.agg (rows.map fun zs => Lib.tabData k zs), p)) : cs = rows.flatten.map fun z => Value.int k z := by
  obtain ⟨xs, f, _, hx, hlen, hl, hel⟩ := DataW.trod_array ht h
  have hxs : xs.map (·.1) = rows.map fun zs => (Lib.tabData k zs : DataW H) := by
    have := congrArg Prod.fst hx
    simpa using this.symm
  have hflat := chunked m (rows.map fun zs => zs.map fun z => Value.int k z) cs (by simp [hlen, hct, hn]) (fun i hi => by
    have hi2 : i < rows.length := by simpa using hi
    have hi3 : i < xs.length := by omega
    have h1 := hel i (by omega)
    rw [hce, List.getElem?_eq_getElem hi3] at h1
    have h2 : xs[i].1 = Lib.tabData k rows[i] := by
      have := congrArg (·[i]?) hxs
      simpa [hi2, hi3] using this
    have h3 := Lib.cells_of_tab (zs := rows[i]) (p := xs[i].2) he hb hcb hce (by rw [h1, ← h2])
    rw [List.getElem_map, h3])
  rw [hflat]
  simp [List.map_flatten]
end Go.Proofs.Ytmhhjdiilmgmoaa
end
section
namespace Go.Proofs.Ytmhhjdiilmgmoaa
open Go.RowKit
set_option linter.unusedVariables false
set_option maxRecDepth 20000

section
variable {H : Type} {enc : TypeId × Value → H} {P : Program} {W : World} {base : Nat} {sp : Nat → Bool} {held : Bool}
theorem addr_add2 (g off : Nat) (i j : Nat) : ((⟨g, off, none⟩ : Addr).add i).add j = ⟨g, off + i + j, none⟩ := by
  have e1 : (⟨g, off, none⟩ : Addr).add i = ⟨g, off + i, none⟩ := by unfold Addr.add; split <;> simp_all
  rw [e1]
  unfold Addr.add
  split <;> simp_all
/-- A list of elements of sz cells: each element's cells, and that they are read. -/
theorem open_rows {t e : TypeId} {fuel : Nat} {cs : List Value} {x : DataW H × List MemPlace} {sz : Nat} (hs0 : 0 < sz)
    (ht : P.underlying t = some (.slice e)) (hce : P.cellsOf e = sz) (hone : ∀ n (c : List Value) y, c.length = sz → DataW.trod enc P W base sp held n e c = some y → c.length = sz) (h : DataW.trod enc P W base sp held fuel t cs = some x) :
    ∃ (v : Value) (n : Nat) (f : Nat → List Value), cs = [v] ∧ Rw W v sz n f ∧ ∀ j, j < n → (f j).length = sz ∧ ∃ m y, DataW.trod enc P W base sp held m e (f j) = some y := by
  rcases DataW.trod_slice ht h with ⟨rfl, _⟩ | ⟨a, len, cap, elems, rest, n, _, rfl, _, hba, hl, hm, hlen, hel, _, _⟩
  · exact ⟨_, 0, fun _ => [], rfl, ⟨none, 0, rfl, Nat.le_refl _, by simp [maxLen], fun h => by omega⟩, fun j hj => by omega⟩
  · have each : ∀ i, i < len → ∃ c : List Value, c.length = sz ∧ (∀ j, j < sz → W.cell? ((a.add (i * sz)).add j) = c[j]?) ∧ ∃ m y, DataW.trod enc P W base sp held m e c = some y := by
      intro i hi
      have h1 := hel i hi
      rw [hce, List.getElem?_eq_getElem (by omega), Option.bind_eq_some_iff] at h1
      obtain ⟨c, hc, ht2⟩ := h1
      obtain ⟨_, hcl, hcell⟩ := World.cells?_some hc
      exact ⟨c, hcl, hcell, n, _, ht2⟩
    refine ⟨_, len, fun j => if hj : j < len then (each j hj).choose else [], rfl, ⟨some a, cap, rfl, hl, hm, fun h0 => ?_⟩, fun j hj => ?_⟩
    · obtain ⟨g, off, spot⟩ := a
      have h1 := (each 0 h0).choose_spec
      have hc := h1.2.1 0 hs0
      rw [List.getElem?_eq_getElem (by rw [h1.1]; exact hs0)] at hc
      have hspot : spot = none := by simpa [Addr.add] using World.cell?_spot hc
      subst hspot
      refine ⟨g, off, rfl, fun k hk j u hj => ?_⟩
      simp only [dif_pos hk] at hj
      have hs := (each k hk).choose_spec
      have hj2 : j < sz := by
        have := (List.getElem?_eq_some_iff.1 hj).1
        rwa [hs.1] at this
      have h3 := hs.2.1 j hj2
      rw [addr_add2] at h3
      rw [h3, hj]
    · simp only [dif_pos hj]
      have hs := (each j hj).choose_spec
      exact ⟨hs.1, hs.2.2⟩
theorem open_bs {t e : TypeId} {fuel : Nat} {cs : List Value} {x : DataW H × List MemPlace} (ht : P.underlying t = some (.slice e)) (he : P.underlying e = some (.int .u8)) (hce : P.cellsOf e = 1) (h : DataW.trod enc P W base sp held fuel t cs = some x) :
    ∃ (v : Value) (l : List UInt8), cs = [v] ∧ Bs W v l := by
  obtain ⟨v, n, f, hcs, ⟨A, c, rfl, h1, h2, h3⟩, hf⟩ := open_rows (by omega) ht hce (fun _ _ _ h _ => h) h
  have each : ∀ j, j < n → ∃ b : UInt8, f j = [.int .u8 (b.toNat : Int)] := fun j hj => by
    obtain ⟨_, m, y, hy⟩ := hf j hj
    obtain ⟨z, hz, _, hwf⟩ := DataW.trod_int he hy
    exact ⟨UInt8.ofNat z.toNat, by rw [hz, u8_of_wf hwf]⟩
  refine ⟨_, List.ofFn fun i : Fin n => (each i.1 i.2).choose, hcs, A, c, by rw [List.length_ofFn], by rw [List.length_ofFn]; exact h1, h2, fun hl => ?_⟩
  rw [List.length_ofFn] at hl
  obtain ⟨b, off, hA, hc⟩ := h3 hl
  refine ⟨b, off, hA, fun j hj => ?_⟩
  rw [List.length_ofFn] at hj
  rw [List.getElem_ofFn]
  have hs := (each j hj).choose_spec
  have h4 := hc j hj 0 (.int .u8 ((each j hj).choose.toNat : Int)) (by have := congrArg (·[0]?) hs; simpa using this)
  rw [Nat.mul_one, Nat.add_zero] at h4
  exact h4
theorem open_zs {t e : TypeId} {fuel : Nat} {cs : List Value} {x : DataW H × List MemPlace} (ht : P.underlying t = some (.slice e)) (he : P.underlying e = some (.int .i64)) (hce : P.cellsOf e = 1) (h : DataW.trod enc P W base sp held fuel t cs = some x) :
    ∃ (v : Value) (l : List Int), cs = [v] ∧ Zs W v l := by
  obtain ⟨v, n, f, hcs, ⟨A, c, rfl, h1, h2, h3⟩, hf⟩ := open_rows (by omega) ht hce (fun _ _ _ h _ => h) h
  have each : ∀ j, j < n → ∃ b : Int, f j = [.int .i64 b] := fun j hj => by
    obtain ⟨_, m, y, hy⟩ := hf j hj
    obtain ⟨z, hz, _, hwf⟩ := DataW.trod_int he hy
    exact ⟨z, hz⟩
  refine ⟨_, List.ofFn fun i : Fin n => (each i.1 i.2).choose, hcs, A, c, by rw [List.length_ofFn], by rw [List.length_ofFn]; exact h1, h2, fun hl => ?_⟩
  rw [List.length_ofFn] at hl
  obtain ⟨b, off, hA, hc⟩ := h3 hl
  refine ⟨b, off, hA, fun j hj => ?_⟩
  rw [List.length_ofFn] at hj
  rw [List.getElem_ofFn]
  have hs := (each j hj).choose_spec
  have h4 := hc j hj 0 (.int .i64 (each j hj).choose) (by have := congrArg (·[0]?) hs; simpa using this)
  rw [Nat.mul_one, Nat.add_zero] at h4
  exact h4
theorem open_kl {t e b : TypeId} {fuel : Nat} {cs : List Value} {x : DataW H × List MemPlace}
    (ht : P.underlying t = some (.slice e)) (he : P.underlying e = some (.array 32 b)) (hb : P.underlying b = some (.int .u8)) (hcb : P.cellsOf b = 1) (hce : P.cellsOf e = 32) (h : DataW.trod enc P W base sp held fuel t cs = some x) :
    ∃ (v : Value) (L : List (List UInt8)), cs = [v] ∧ Kl W v L := by
  obtain ⟨v, n, f, hcs, ⟨A, c, rfl, h1, h2, h3⟩, hf⟩ := open_rows (by omega) ht hce (fun _ _ _ h _ => h) h
  have each : ∀ j, j < n → ∃ l : List UInt8, l.length = 32 ∧ f j = cellsB l := fun j hj => by
    obtain ⟨hfl, m, y, hy⟩ := hf j hj
    obtain ⟨xs, m', _, _, _, hxl, hxe⟩ := DataW.trod_array he hy
    refine ⟨(f j).map fun v => match v with | .int _ z => UInt8.ofNat z.toNat | _ => 0, by simpa using hfl, ?_⟩
    apply List.ext_getElem (by simp [cellsB])
    intro i hi1 hi2
    rw [hfl] at hi1
    have h2 := hxe i hi1
    rw [hcb, List.getElem?_eq_getElem (by omega)] at h2
    obtain ⟨z, hz, _, hwf⟩ := DataW.trod_int hb h2
    have hcj : (f j)[i]? = some (.int .u8 z) := by
      have := congrArg (·[0]?) hz
      simpa [List.getElem?_take, List.getElem?_drop] using this
    have hcj2 : (f j)[i] = .int .u8 z := by
      rw [List.getElem?_eq_getElem (by omega)] at hcj
      exact Option.some.inj hcj
    simp only [cellsB, List.getElem_map, hcj2]
    rw [u8_of_wf hwf]
  refine ⟨_, List.ofFn fun i : Fin n => (each i.1 i.2).choose, hcs, A, c, by rw [List.length_ofFn], by rw [List.length_ofFn]; exact h1, h2, fun l hl => ?_, fun hl => ?_⟩
  · obtain ⟨i, rfl⟩ := List.mem_ofFn.1 hl
    exact (each i.1 i.2).choose_spec.1
  · rw [List.length_ofFn] at hl
    obtain ⟨g, off, hA, hc⟩ := h3 hl
    refine ⟨g, off, hA, fun k l hk => ?_⟩
    obtain ⟨hk1, hk2⟩ := List.getElem?_eq_some_iff.1 hk
    rw [List.getElem_ofFn] at hk2
    rw [List.length_ofFn] at hk1
    have hs := (each k hk1).choose_spec
    simp only at hk2
    rw [hk2] at hs
    rw [← hs.2]
    exact hc k hk1
end
end Go.Proofs.Ytmhhjdiilmgmoaa
end
section
namespace Go.Proofs.Ytmhhjdiilmgmoaa
open Go.RowKit Go.WideShapes
set_option linter.unusedVariables false
set_option maxRecDepth 20000

theorem open_k {H : Type} {enc : TypeId × Value → H} {P : Program} {W : World} {base : Nat} {sp : Nat → Bool} {held : Bool} {fuel : Nat} {e b : TypeId} {cs : List Value} {x : DataW H × List MemPlace}
    (he : P.underlying e = some (.array 32 b)) (hb : P.underlying b = some (.int .u8)) (hcb : P.cellsOf b = 1) (hl : cs.length = 32) (h : DataW.trod enc P W base sp held fuel e cs = some x) : ∃ l : List UInt8, l.length = 32 ∧ cs = cellsB l := by
  obtain ⟨xs, m', _, _, _, hxl, hxe⟩ := DataW.trod_array he h
  refine ⟨cs.map fun v => match v with | .int _ z => UInt8.ofNat z.toNat | _ => 0, by simpa using hl, ?_⟩
  apply List.ext_getElem (by simp [cellsB])
  intro i hi1 hi2
  have h2 := hxe i (by omega)
  rw [hcb, List.getElem?_eq_getElem (by omega)] at h2
  obtain ⟨z, hz, _, hwf⟩ := DataW.trod_int hb h2
  have hcj : cs[i]? = some (.int .u8 z) := by
    have := congrArg (·[0]?) hz
    simpa [List.getElem?_take, List.getElem?_drop] using this
  have hcj2 : cs[i] = .int .u8 z := by
    rw [List.getElem?_eq_getElem (by omega)] at hcj
    exact Option.some.inj hcj
  simp only [cellsB, List.getElem_map, hcj2]
  rw [u8_of_wf hwf]
theorem u32_lt {n : Int} (h : (Lit.int .u32 n).wf = true) : ∃ k : Nat, n = (k : Int) ∧ k < 4294967296 := by
  have hb := bounds_u32 h
  exact ⟨n.toNat, by omega, by omega⟩
theorem cut_at {cs : List Value} (o k : Nat) : cs.drop o = (cs.drop o).take k ++ cs.drop (o + k) := by
  rw [← List.drop_drop, List.take_append_drop]
theorem Try.cellsKey : Try.prog.cellsOf 24 = 32 := by kernel_rfl
theorem Try.cells8 : Try.prog.cellsOf 5 = 1 := by kernel_rfl
theorem Try.cellsFr : Try.prog.cellsOf 28 = 100 := by kernel_rfl
theorem Try.cellsBu : Try.prog.cellsOf 39 = 128 := by kernel_rfl
theorem Try.cells32 : Try.prog.cellsOf 22 = 1 := by kernel_rfl
theorem Try.cellsBs : Try.prog.cellsOf 25 = 1 := by kernel_rfl
theorem Try.cellsKs : Try.prog.cellsOf 26 = 1 := by kernel_rfl
theorem open_fr {H : Type} {enc : TypeId × Value → H} {W : World} {base b0 : Nat} {sp : Nat → Bool} {held : Bool} {v : Value} {d : DataW H} {ps : List MemPlace} (hval : Value.okWide Try.prog W .any b0 28 v) (h : DataW.Trod enc Try.prog W base sp held 28 v d ps) :
    ∃ f : Fr, FrV W v f ∧ f.Ok ∧ ∀ l ∈ f.sign, l.length = 32 := by
  obtain ⟨cs, rfl, hsz⟩ := okWide_struct Try.underlying28 hval
  rw [Try.cellsFr] at hsz
  obtain ⟨fuel, hf⟩ := h
  obtain ⟨xs, m', _, _, _, hxl, hxe⟩ := DataW.trod_struct Try.underlying28 hf
  have hl7 : xs.length = 7 := hxl
  have f0 := hxe 0 _ rfl
  have f1 := hxe 1 _ rfl
  have f2 := hxe 2 _ rfl
  have f3 := hxe 3 _ rfl
  have f4 := hxe 4 _ rfl
  have f5 := hxe 5 _ rfl
  have f6 := hxe 6 _ rfl
  have hcs : (Value.agg cs).cells.toList = cs.toList := rfl
  rw [List.getElem?_eq_getElem (by omega), hcs] at f0 f1 f2 f3 f4 f5 f6
  have hL : cs.toList.length = 100 := by rw [Array.length_toList]; exact hsz
  have g0 : DataW.trod enc Try.prog W base sp held m' 22 ((cs.toList.drop 0).take (Try.prog.cellsOf 22)) = some xs[0] := f0
  rw [Try.cells32] at g0
  have g1 : DataW.trod enc Try.prog W base sp held m' 22 ((cs.toList.drop 1).take (Try.prog.cellsOf 22)) = some xs[1] := f1
  rw [Try.cells32] at g1
  have g2 : DataW.trod enc Try.prog W base sp held m' 24 ((cs.toList.drop 2).take (Try.prog.cellsOf 24)) = some xs[2] := f2
  rw [Try.cellsKey] at g2
  have g3 : DataW.trod enc Try.prog W base sp held m' 24 ((cs.toList.drop 34).take (Try.prog.cellsOf 24)) = some xs[3] := f3
  rw [Try.cellsKey] at g3
  have g4 : DataW.trod enc Try.prog W base sp held m' 24 ((cs.toList.drop 66).take (Try.prog.cellsOf 24)) = some xs[4] := f4
  rw [Try.cellsKey] at g4
  have g5 : DataW.trod enc Try.prog W base sp held m' 25 ((cs.toList.drop 98).take (Try.prog.cellsOf 25)) = some xs[5] := f5
  rw [Try.cellsBs] at g5
  have g6 : DataW.trod enc Try.prog W base sp held m' 26 ((cs.toList.drop 99).take (Try.prog.cellsOf 26)) = some xs[6] := f6
  rw [Try.cellsKs] at g6
  clear f0 f1 f2 f3 f4 f5 f6 hf hxe
  obtain ⟨n0, c0, _, w0⟩ := DataW.trod_int (k := .u32) Try.underlying22 g0
  obtain ⟨n1, c1, _, w1⟩ := DataW.trod_int (k := .u32) Try.underlying22 g1
  obtain ⟨k2, e2, c2⟩ := open_k Try.underlying24 Try.underlying5 Try.cells8 (by rw [List.length_take, List.length_drop, hL]; omega) g2
  obtain ⟨k3, e3, c3⟩ := open_k Try.underlying24 Try.underlying5 Try.cells8 (by rw [List.length_take, List.length_drop, hL]; omega) g3
  obtain ⟨k4, e4, c4⟩ := open_k Try.underlying24 Try.underlying5 Try.cells8 (by rw [List.length_take, List.length_drop, hL]; omega) g4
  obtain ⟨bv, b, c5, hb⟩ := open_bs Try.underlying25 Try.underlying5 Try.cells8 g5
  obtain ⟨sv, s, c6, hs⟩ := open_kl Try.underlying26 Try.underlying24 Try.underlying5 Try.cells8 Try.cellsKey g6
  obtain ⟨n0, rfl, h0⟩ := u32_lt w0
  obtain ⟨n1, rfl, h1⟩ := u32_lt w1
  have ho : Fr.Ok ⟨n0, n1, k2, k3, k4, b, s⟩ := ⟨h0, h1, e2, e3, e4⟩
  have hcs2 : cs.toList = frL ⟨n0, n1, k2, k3, k4, b, s⟩ bv sv := by
    have z0 : cs.toList = (cs.toList.drop 0).take 1 ++ cs.toList.drop 1 := by rw [List.drop_zero, List.take_append_drop]
    rw [z0, cut_at 1 1, cut_at 2 32, cut_at 34 32, cut_at 66 32, cut_at 98 1, cut_at 99 1, c0, c1, c2, c3, c4, c5, c6, List.drop_eq_nil_of_le (by rw [hL]; omega)]
    simp [frL]
  refine ⟨⟨n0, n1, k2, k3, k4, b, s⟩, ⟨bv, sv, ?_, ho, hb, hs⟩, ho, ?_⟩
  · congr 1
    apply Array.toList_inj.1
    rw [hcs2]
    simp [frC]
  · obtain ⟨_, _, _, _, _, h32, _⟩ := hs
    exact h32
theorem open_bu {H : Type} {enc : TypeId × Value → H} {W : World} {base b0 : Nat} {sp : Nat → Bool} {held : Bool} {v : Value} {d : DataW H} {ps : List MemPlace} (hval : Value.okWide Try.prog W .any b0 39 v) (h : DataW.Trod enc Try.prog W base sp held 39 v d ps) :
    ∃ ks : List (List UInt8), v = buV ks ∧ BuOk ks := by
  obtain ⟨cs, rfl, hsz⟩ := okWide_struct Try.underlying39 hval
  rw [Try.cellsBu] at hsz
  obtain ⟨fuel, hf⟩ := h
  obtain ⟨xs, m', _, _, _, hxl, hxe⟩ := DataW.trod_struct Try.underlying39 hf
  have hl4 : xs.length = 4 := hxl
  have f0 := hxe 0 _ rfl
  have f1 := hxe 1 _ rfl
  have f2 := hxe 2 _ rfl
  have f3 := hxe 3 _ rfl
  have hcs : (Value.agg cs).cells.toList = cs.toList := rfl
  rw [List.getElem?_eq_getElem (by omega), hcs] at f0 f1 f2 f3
  have hL : cs.toList.length = 128 := by rw [Array.length_toList]; exact hsz
  have g0 : DataW.trod enc Try.prog W base sp held m' 24 ((cs.toList.drop 0).take (Try.prog.cellsOf 24)) = some xs[0] := f0
  rw [Try.cellsKey] at g0
  have g1 : DataW.trod enc Try.prog W base sp held m' 24 ((cs.toList.drop 32).take (Try.prog.cellsOf 24)) = some xs[1] := f1
  rw [Try.cellsKey] at g1
  have g2 : DataW.trod enc Try.prog W base sp held m' 24 ((cs.toList.drop 64).take (Try.prog.cellsOf 24)) = some xs[2] := f2
  rw [Try.cellsKey] at g2
  have g3 : DataW.trod enc Try.prog W base sp held m' 24 ((cs.toList.drop 96).take (Try.prog.cellsOf 24)) = some xs[3] := f3
  rw [Try.cellsKey] at g3
  clear f0 f1 f2 f3 hf hxe
  obtain ⟨k0, e0, c0⟩ := open_k Try.underlying24 Try.underlying5 Try.cells8 (by rw [List.length_take, List.length_drop, hL]; omega) g0
  obtain ⟨k1, e1, c1⟩ := open_k Try.underlying24 Try.underlying5 Try.cells8 (by rw [List.length_take, List.length_drop, hL]; omega) g1
  obtain ⟨k2, e2, c2⟩ := open_k Try.underlying24 Try.underlying5 Try.cells8 (by rw [List.length_take, List.length_drop, hL]; omega) g2
  obtain ⟨k3, e3, c3⟩ := open_k Try.underlying24 Try.underlying5 Try.cells8 (by rw [List.length_take, List.length_drop, hL]; omega) g3
  have hcs2 : cs.toList = cellsB [k0, k1, k2, k3].flatten := by
    have z0 : cs.toList = (cs.toList.drop 0).take 32 ++ cs.toList.drop 32 := by rw [List.drop_zero, List.take_append_drop]
    rw [z0, cut_at 32 32, cut_at 64 32, cut_at 96 32, c0, c1, c2, c3, List.drop_eq_nil_of_le (by rw [hL]; omega)]
    simp [cellsB]
  refine ⟨[k0, k1, k2, k3], ?_, rfl, ?_⟩
  · unfold buV
    congr 1
    apply Array.toList_inj.1
    rw [hcs2]
    simp [keyC]
  · intro l hl
    simp only [List.mem_cons, List.not_mem_nil, or_false] at hl
    rcases hl with rfl | rfl | rfl | rfl <;> assumption
end Go.Proofs.Ytmhhjdiilmgmoaa
end
section
namespace Go.Proofs.Ytmhhjdiilmgmoaa
open Go.RowKit
set_option linter.unusedVariables false
theorem walkS_onlyH {P : Program} {md : Region.Mode} {ops : Array Oper} {Q : Exit → Act → World → Prop} {S : World → Prop} {fin : Nat → Bool} {i : Nat} {o : Oper} {m : Nat} {listed : Array Bool} {a : Act} {w : World} (hr : Region.ready md ops listed = [i]) (ho : ops[i]? = some o) (hw : Region.wanted o (yielded ops a.tmps) = true)
    (h : ∀ K : Act → World → Prop, (∀ a' w', (fin i = true ∨ S w') → walkS P md ops Q S fin m (listed.setIfInBounds i true) a' w' → K a' w') → o.wp P a w K Q) : walkS P md ops Q S fin (m + 1) listed a w := by
  refine ⟨fun h0 => by simp [hr] at h0, fun j hj => ?_⟩
  rw [hr] at hj
  obtain rfl : j = i := by simpa using hj
  unfold wpOp
  rw [ho]
  simp only [hw, if_true]
  exact .inl (h _ (fun a' w' h1 h2 => ⟨h1, h2⟩))
end Go.Proofs.Ytmhhjdiilmgmoaa
end
