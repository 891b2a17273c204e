/-
  FieldSquares, walked: the call returns true. Conditions: none beyond the law's own.
-/
import Derived.Test.YtejingggfbmbjaaFieldM
import Derived.Test.YtejingggfbmbjaaFieldPrime
namespace Go.Proofs.Ytejingggfbmbjaa
open Go.RowKit
set_option linter.unusedVariables false
set_option maxRecDepth 20000

set_option maxHeartbeats 8000000 in
theorem fieldSquares_walk (w : World) (i : List UInt8) (hi : i.length = 32) (j : List UInt8) (hj : j.length = 32) :
    Calls Try.prog 10 #[keyV i, keyV j] w (RetV w (.bool true)) := by
  obtain ⟨ni, hni⟩ : ∃ v, v = numK i := ⟨_, rfl⟩
  have bni : ni < pF := by rw [hni]; exact numK_lt i
  have Li := Lib.hid hi
  obtain ⟨nj, hnj⟩ : ∃ v, v = numK j := ⟨_, rfl⟩
  have bnj : nj < pF := by rw [hnj]; exact numK_lt j
  have Lj := Lib.hid hj
  have C11 : Hid (∀ w, Calls Try.prog 11 #[] w (RetV w (.bool true))) := fun w => awake_any w
  have C13 : Hid (∀ w, Calls Try.prog 19 #[.agg (keyC (i))] w (RetV w (.agg (natsC (elemL ni))))) := by rw [hni]; exact fun w => of_any i hi w
  have C15 : Hid (∀ w, Calls Try.prog 19 #[.agg (keyC (j))] w (RetV w (.agg (natsC (elemL nj))))) := by rw [hnj]; exact fun w => of_any j hj w
  obtain ⟨v18, hv18⟩ : ∃ v, v = (ni + nj) % pF := ⟨_, rfl⟩
  have bv18 : v18 < pF := by rw [hv18]; exact modF_lt _
  have C18 : Hid (∀ w, Calls Try.prog 20 #[.agg (natsC (elemL ni)), .agg (natsC (elemL nj))] w (RetV w (.agg (natsC (elemL v18))))) := by rw [hv18]; exact fun w => Add_any ni nj bni bnj w
  obtain ⟨v21, hv21⟩ : ∃ v, v = subF ni nj := ⟨_, rfl⟩
  have bv21 : v21 < pF := by rw [hv21]; exact subF_lt _ _
  have C21 : Hid (∀ w, Calls Try.prog 21 #[.agg (natsC (elemL ni)), .agg (natsC (elemL nj))] w (RetV w (.agg (natsC (elemL v21))))) := by rw [hv21]; exact fun w => Sub_any ni nj bni bnj w
  obtain ⟨v22, hv22⟩ : ∃ v, v = v18 * v21 % pF := ⟨_, rfl⟩
  have bv22 : v22 < pF := by rw [hv22]; exact modF_lt _
  have C22 : Hid (∀ w, Calls Try.prog 22 #[.agg (natsC (elemL v18)), .agg (natsC (elemL v21))] w (RetV w (.agg (natsC (elemL v22))))) := by rw [hv22]; exact fun w => Mul_any v18 v21 bv18 bv21 w
  obtain ⟨v25, hv25⟩ : ∃ v, v = ni * ni % pF := ⟨_, rfl⟩
  have bv25 : v25 < pF := by rw [hv25]; exact modF_lt _
  have C25 : Hid (∀ w, Calls Try.prog 22 #[.agg (natsC (elemL ni)), .agg (natsC (elemL ni))] w (RetV w (.agg (natsC (elemL v25))))) := by rw [hv25]; exact fun w => Mul_any ni ni bni bni w
  obtain ⟨v28, hv28⟩ : ∃ v, v = nj * nj % pF := ⟨_, rfl⟩
  have bv28 : v28 < pF := by rw [hv28]; exact modF_lt _
  have C28 : Hid (∀ w, Calls Try.prog 22 #[.agg (natsC (elemL nj)), .agg (natsC (elemL nj))] w (RetV w (.agg (natsC (elemL v28))))) := by rw [hv28]; exact fun w => Mul_any nj nj bnj bnj w
  obtain ⟨v29, hv29⟩ : ∃ v, v = subF v25 v28 := ⟨_, rfl⟩
  have bv29 : v29 < pF := by rw [hv29]; exact subF_lt _ _
  have C29 : Hid (∀ w, Calls Try.prog 21 #[.agg (natsC (elemL v25)), .agg (natsC (elemL v28))] w (RetV w (.agg (natsC (elemL v29))))) := by rw [hv29]; exact fun w => Sub_any v25 v28 bv25 bv28 w
  have q30 : (v22 == v29) = true := by rw [beq_iff_eq, hv22, hv18, hv21, hv29, hv25, hv28]; exact squares _ _ bni bnj
  have C30 : Hid (∀ w, Calls Try.prog 26 #[.agg (natsC (elemL v22)), .agg (natsC (elemL v29))] w (RetV w (.bool true))) := fun w => by have h := Equal_any v22 v29 bv22 bv29 w; rwa [q30] at h
  obtain ⟨v32, hv32⟩ : ∃ v, v = invF ni := ⟨_, rfl⟩
  have bv32 : v32 < pF := by rw [hv32]; exact invF_lt _
  have C32 : Hid (∀ w, Calls Try.prog 29 #[.agg (natsC (elemL ni))] w (RetV w (.agg (natsC (elemL v32))))) := by rw [hv32]; exact fun w => Invert_any ni bni w
  obtain ⟨v33, hv33⟩ : ∃ v, v = invF v32 := ⟨_, rfl⟩
  have bv33 : v33 < pF := by rw [hv33]; exact invF_lt _
  have C33 : Hid (∀ w, Calls Try.prog 29 #[.agg (natsC (elemL v32))] w (RetV w (.agg (natsC (elemL v33))))) := by rw [hv33]; exact fun w => Invert_any v32 bv32 w
  have q35 : (v33 == ni) = true := by rw [beq_iff_eq, hv33, hv32]; exact inv_inv _ bni
  have C35 : Hid (∀ w, Calls Try.prog 26 #[.agg (natsC (elemL v33)), .agg (natsC (elemL ni))] w (RetV w (.bool true))) := fun w => by have h := Equal_any v33 ni bv33 bni w; rwa [q35] at h
  obtain ⟨v38, hv38⟩ : ∃ v, v = ni * nj % pF := ⟨_, rfl⟩
  have bv38 : v38 < pF := by rw [hv38]; exact modF_lt _
  have C38 : Hid (∀ w, Calls Try.prog 22 #[.agg (natsC (elemL ni)), .agg (natsC (elemL nj))] w (RetV w (.agg (natsC (elemL v38))))) := by rw [hv38]; exact fun w => Mul_any ni nj bni bnj w
  obtain ⟨v39, hv39⟩ : ∃ v, v = invF v38 := ⟨_, rfl⟩
  have bv39 : v39 < pF := by rw [hv39]; exact invF_lt _
  have C39 : Hid (∀ w, Calls Try.prog 29 #[.agg (natsC (elemL v38))] w (RetV w (.agg (natsC (elemL v39))))) := by rw [hv39]; exact fun w => Invert_any v38 bv38 w
  obtain ⟨v43, hv43⟩ : ∃ v, v = invF nj := ⟨_, rfl⟩
  have bv43 : v43 < pF := by rw [hv43]; exact invF_lt _
  have C43 : Hid (∀ w, Calls Try.prog 29 #[.agg (natsC (elemL nj))] w (RetV w (.agg (natsC (elemL v43))))) := by rw [hv43]; exact fun w => Invert_any nj bnj w
  obtain ⟨v44, hv44⟩ : ∃ v, v = v32 * v43 % pF := ⟨_, rfl⟩
  have bv44 : v44 < pF := by rw [hv44]; exact modF_lt _
  have C44 : Hid (∀ w, Calls Try.prog 22 #[.agg (natsC (elemL v32)), .agg (natsC (elemL v43))] w (RetV w (.agg (natsC (elemL v44))))) := by rw [hv44]; exact fun w => Mul_any v32 v43 bv32 bv43 w
  have q45 : (v39 == v44) = true := by rw [beq_iff_eq, hv39, hv38, hv44, hv32, hv43]; exact inv_prod _ _
  have C45 : Hid (∀ w, Calls Try.prog 26 #[.agg (natsC (elemL v39)), .agg (natsC (elemL v44))] w (RetV w (.bool true))) := fun w => by have h := Equal_any v39 v44 bv39 bv44 w; rwa [q45] at h
  clear hni hnj bni bnj hi hj hv18 bv18 hv21 bv21 hv22 bv22 hv25 bv25 hv28 bv28 hv29 bv29 q30 hv32 bv32 hv33 bv33 q35 hv38 bv38 hv39 bv39 hv43 bv43 hv44 bv44 q45
  have E0 := Lib.hid (Env.start w)
  go_enter Try.func10, Try.ntmps10
  go_wp2_with (first
    | ((with_reducible refine wpE_box (o := ⟨some 2, _, _, _, _, _⟩) rfl 23 (.tmp 0) rfl (keyC (i)) (by with_unfolding_all rfl) E0.out ?_); intro g1 w1 T1; have E1 := Lib.hid T1; clear T1)
    | ((with_reducible refine wpE_box (o := ⟨some 3, _, _, _, _, _⟩) rfl 23 (.tmp 1) rfl (keyC (j)) (by with_unfolding_all rfl) E1.out ?_); intro g2 w2 T2; have E2 := Lib.hid T2; clear T2))
  refine (C11.out _).mono ?_
  rintro e w3 ⟨rfl, b3⟩
  have E3 := Lib.hid (E2.out.call b3)
  clear b3 E2
  go_wp2_with (first
    | (with_reducible refine wpE_load (o := ⟨some 12, _, _, _, _, _⟩) rfl 23 (.tmp 2) rfl 1 g1 23 (keyC (i)) _ (by with_unfolding_all rfl) (by with_unfolding_all rfl) Try.underlying23 rfl (Try.sizeKey _ Li.out) E3.out ?_))
  refine (C13.out _).mono ?_
  rintro e w4 ⟨rfl, b4⟩
  have E4 := Lib.hid (E3.out.call b4)
  clear b4 E3
  go_wp2_with (first
    | ((with_reducible refine wpE_alloc (o := ⟨some 6, _, _, _, _, _⟩) rfl 29 rfl (natsC (zero5)) Try.zero5e E4.out ?_); intro g3 w5 T5; have E5 := Lib.hid T5; clear T5)
    | ((with_reducible refine wpE_store (o := ⟨none, _, _, _, _, _⟩) rfl 29 (.tmp 6) (.tmp 13) rfl 0 g3 29 (natsC (zero5)) (natsC (elemL ni)) (by with_unfolding_all rfl) (by with_unfolding_all rfl) (by with_unfolding_all rfl) (natsC_same zero5_length (elemL_length _)) (sizeN Try.sz5e _ (elemL_length _)) (natsC_one _) E5.out ?_); intro w6 T6; simp only [List.set_cons_zero] at T6; have E6 := Lib.hid T6; clear T6)
    | (with_reducible refine wpE_load (o := ⟨some 14, _, _, _, _, _⟩) rfl 23 (.tmp 3) rfl 1 g2 23 (keyC (j)) _ (by with_unfolding_all rfl) (by with_unfolding_all rfl) Try.underlying23 rfl (Try.sizeKey _ Lj.out) E6.out ?_))
  refine (C15.out _).mono ?_
  rintro e w7 ⟨rfl, b7⟩
  have E7 := Lib.hid (E6.out.call b7)
  clear b7 E6
  go_wp2_with (first
    | ((with_reducible refine wpE_alloc (o := ⟨some 7, _, _, _, _, _⟩) rfl 29 rfl (natsC (zero5)) Try.zero5e E7.out ?_); intro g4 w8 T8; have E8 := Lib.hid T8; clear T8)
    | ((with_reducible refine wpE_store (o := ⟨none, _, _, _, _, _⟩) rfl 29 (.tmp 7) (.tmp 15) rfl 0 g4 29 (natsC (zero5)) (natsC (elemL nj)) (by with_unfolding_all rfl) (by with_unfolding_all rfl) (by with_unfolding_all rfl) (natsC_same zero5_length (elemL_length _)) (sizeN Try.sz5e _ (elemL_length _)) (natsC_one _) E8.out ?_); intro w9 T9; simp only [List.set_cons_zero] at T9; have E9 := Lib.hid T9; clear T9))
  refine region_class _ E9.out.drew (by kernel_rfl) (by kernel_rfl) ?_
  refine qE_load (by rfl) _ (.tmp 6) rfl 1 g3 29 (natsC (elemL ni)) _ rfl rfl Try.underlying29 rfl (sizeN Try.sz5e _ (elemL_length _)) ?_
  simp only [Act.put, List.setIfInBounds_toArray, List.set_cons_zero, List.set_cons_succ]
  refine qE_load (by rfl) _ (.tmp 7) rfl 0 g4 29 (natsC (elemL nj)) _ rfl rfl Try.underlying29 rfl (sizeN Try.sz5e _ (elemL_length _)) ?_
  simp only [Act.put, List.setIfInBounds_toArray, List.set_cons_zero, List.set_cons_succ]
  refine q_call (by rfl) 20 _ (fun W => by go_simp) (fun W hW => hW.calls (C18.out W)) ?_
  simp only [Act.put, List.setIfInBounds_toArray, List.set_cons_zero, List.set_cons_succ]
  refine qE_load (by rfl) _ (.tmp 6) rfl 1 g3 29 (natsC (elemL ni)) _ rfl rfl Try.underlying29 rfl (sizeN Try.sz5e _ (elemL_length _)) ?_
  simp only [Act.put, List.setIfInBounds_toArray, List.set_cons_zero, List.set_cons_succ]
  refine qE_load (by rfl) _ (.tmp 7) rfl 0 g4 29 (natsC (elemL nj)) _ rfl rfl Try.underlying29 rfl (sizeN Try.sz5e _ (elemL_length _)) ?_
  simp only [Act.put, List.setIfInBounds_toArray, List.set_cons_zero, List.set_cons_succ]
  refine q_call (by rfl) 21 _ (fun W => by go_simp) (fun W hW => hW.calls (C21.out W)) ?_
  simp only [Act.put, List.setIfInBounds_toArray, List.set_cons_zero, List.set_cons_succ]
  refine q_call (by rfl) 22 _ (fun W => by go_simp) (fun W hW => hW.calls (C22.out W)) ?_
  simp only [Act.put, List.setIfInBounds_toArray, List.set_cons_zero, List.set_cons_succ]
  refine qE_load (by rfl) _ (.tmp 6) rfl 1 g3 29 (natsC (elemL ni)) _ rfl rfl Try.underlying29 rfl (sizeN Try.sz5e _ (elemL_length _)) ?_
  simp only [Act.put, List.setIfInBounds_toArray, List.set_cons_zero, List.set_cons_succ]
  refine qE_load (by rfl) _ (.tmp 6) rfl 1 g3 29 (natsC (elemL ni)) _ rfl rfl Try.underlying29 rfl (sizeN Try.sz5e _ (elemL_length _)) ?_
  simp only [Act.put, List.setIfInBounds_toArray, List.set_cons_zero, List.set_cons_succ]
  refine q_call (by rfl) 22 _ (fun W => by go_simp) (fun W hW => hW.calls (C25.out W)) ?_
  simp only [Act.put, List.setIfInBounds_toArray, List.set_cons_zero, List.set_cons_succ]
  refine qE_load (by rfl) _ (.tmp 7) rfl 0 g4 29 (natsC (elemL nj)) _ rfl rfl Try.underlying29 rfl (sizeN Try.sz5e _ (elemL_length _)) ?_
  simp only [Act.put, List.setIfInBounds_toArray, List.set_cons_zero, List.set_cons_succ]
  refine qE_load (by rfl) _ (.tmp 7) rfl 0 g4 29 (natsC (elemL nj)) _ rfl rfl Try.underlying29 rfl (sizeN Try.sz5e _ (elemL_length _)) ?_
  simp only [Act.put, List.setIfInBounds_toArray, List.set_cons_zero, List.set_cons_succ]
  refine q_call (by rfl) 22 _ (fun W => by go_simp) (fun W hW => hW.calls (C28.out W)) ?_
  simp only [Act.put, List.setIfInBounds_toArray, List.set_cons_zero, List.set_cons_succ]
  refine q_call (by rfl) 21 _ (fun W => by go_simp) (fun W hW => hW.calls (C29.out W)) ?_
  simp only [Act.put, List.setIfInBounds_toArray, List.set_cons_zero, List.set_cons_succ]
  refine q_call (by rfl) 26 _ (fun W => by go_simp) (fun W hW => hW.calls (C30.out W)) ?_
  simp only [Act.put, List.setIfInBounds_toArray, List.set_cons_zero, List.set_cons_succ]
  refine q_run (by rfl) (v := .bool true) (fun W _ => by go_simp) ?_
  simp only [Act.put, List.setIfInBounds_toArray, List.set_cons_zero, List.set_cons_succ]
  refine wpQuiet_nil ?_
  intro w10 T10
  have E10 := Lib.hid T10
  clear T10 E9
  go_wp2_with fail
  refine region_class _ E10.out.drew (by kernel_rfl) (by kernel_rfl) ?_
  refine qE_load (by rfl) _ (.tmp 6) rfl 1 g3 29 (natsC (elemL ni)) _ rfl rfl Try.underlying29 rfl (sizeN Try.sz5e _ (elemL_length _)) ?_
  simp only [Act.put, List.setIfInBounds_toArray, List.set_cons_zero, List.set_cons_succ]
  refine q_call (by rfl) 29 _ (fun W => by go_simp) (fun W hW => hW.calls (C32.out W)) ?_
  simp only [Act.put, List.setIfInBounds_toArray, List.set_cons_zero, List.set_cons_succ]
  refine q_call (by rfl) 29 _ (fun W => by go_simp) (fun W hW => hW.calls (C33.out W)) ?_
  simp only [Act.put, List.setIfInBounds_toArray, List.set_cons_zero, List.set_cons_succ]
  refine qE_load (by rfl) _ (.tmp 6) rfl 1 g3 29 (natsC (elemL ni)) _ rfl rfl Try.underlying29 rfl (sizeN Try.sz5e _ (elemL_length _)) ?_
  simp only [Act.put, List.setIfInBounds_toArray, List.set_cons_zero, List.set_cons_succ]
  refine q_call (by rfl) 26 _ (fun W => by go_simp) (fun W hW => hW.calls (C35.out W)) ?_
  simp only [Act.put, List.setIfInBounds_toArray, List.set_cons_zero, List.set_cons_succ]
  refine q_run (by rfl) (v := .bool true) (fun W _ => by go_simp) ?_
  simp only [Act.put, List.setIfInBounds_toArray, List.set_cons_zero, List.set_cons_succ]
  refine wpQuiet_nil ?_
  intro w11 T11
  have E11 := Lib.hid T11
  clear T11 E10
  go_wp2_with fail
  refine region_class _ E11.out.drew (by kernel_rfl) (by kernel_rfl) ?_
  refine qE_load (by rfl) _ (.tmp 6) rfl 1 g3 29 (natsC (elemL ni)) _ rfl rfl Try.underlying29 rfl (sizeN Try.sz5e _ (elemL_length _)) ?_
  simp only [Act.put, List.setIfInBounds_toArray, List.set_cons_zero, List.set_cons_succ]
  refine qE_load (by rfl) _ (.tmp 7) rfl 0 g4 29 (natsC (elemL nj)) _ rfl rfl Try.underlying29 rfl (sizeN Try.sz5e _ (elemL_length _)) ?_
  simp only [Act.put, List.setIfInBounds_toArray, List.set_cons_zero, List.set_cons_succ]
  refine q_call (by rfl) 22 _ (fun W => by go_simp) (fun W hW => hW.calls (C38.out W)) ?_
  simp only [Act.put, List.setIfInBounds_toArray, List.set_cons_zero, List.set_cons_succ]
  refine q_call (by rfl) 29 _ (fun W => by go_simp) (fun W hW => hW.calls (C39.out W)) ?_
  simp only [Act.put, List.setIfInBounds_toArray, List.set_cons_zero, List.set_cons_succ]
  refine qE_load (by rfl) _ (.tmp 6) rfl 1 g3 29 (natsC (elemL ni)) _ rfl rfl Try.underlying29 rfl (sizeN Try.sz5e _ (elemL_length _)) ?_
  simp only [Act.put, List.setIfInBounds_toArray, List.set_cons_zero, List.set_cons_succ]
  refine q_call (by rfl) 29 _ (fun W => by go_simp) (fun W hW => hW.calls (C32.out W)) ?_
  simp only [Act.put, List.setIfInBounds_toArray, List.set_cons_zero, List.set_cons_succ]
  refine qE_load (by rfl) _ (.tmp 7) rfl 0 g4 29 (natsC (elemL nj)) _ rfl rfl Try.underlying29 rfl (sizeN Try.sz5e _ (elemL_length _)) ?_
  simp only [Act.put, List.setIfInBounds_toArray, List.set_cons_zero, List.set_cons_succ]
  refine q_call (by rfl) 29 _ (fun W => by go_simp) (fun W hW => hW.calls (C43.out W)) ?_
  simp only [Act.put, List.setIfInBounds_toArray, List.set_cons_zero, List.set_cons_succ]
  refine q_call (by rfl) 22 _ (fun W => by go_simp) (fun W hW => hW.calls (C44.out W)) ?_
  simp only [Act.put, List.setIfInBounds_toArray, List.set_cons_zero, List.set_cons_succ]
  refine q_call (by rfl) 26 _ (fun W => by go_simp) (fun W hW => hW.calls (C45.out W)) ?_
  simp only [Act.put, List.setIfInBounds_toArray, List.set_cons_zero, List.set_cons_succ]
  refine q_run (by rfl) (v := .bool true) (fun W _ => by go_simp) ?_
  simp only [Act.put, List.setIfInBounds_toArray, List.set_cons_zero, List.set_cons_succ]
  refine wpQuiet_nil ?_
  intro w12 T12
  have E12 := Lib.hid T12
  clear T12 E11
  go_wp2_with fail
  go_ret
  exact E12.out.ret _
end Go.Proofs.Ytejingggfbmbjaa
