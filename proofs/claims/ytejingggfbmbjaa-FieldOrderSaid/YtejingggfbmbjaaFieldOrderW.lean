/-
  FieldOrder, walked: the call returns true. Conditions: none beyond the law's own.
-/
import Derived.Test.YtejingggfbmbjaaFieldM
import Derived.Test.YtejingggfbmbjaaFieldLaws
namespace Go.Proofs.Ytejingggfbmbjaa
open Go.RowKit
set_option linter.unusedVariables false
set_option maxRecDepth 20000

set_option maxHeartbeats 4000000 in
theorem fieldOrder_walk (w : World) (i : List UInt8) (hi : i.length = 32) (j : List UInt8) (hj : j.length = 32) (k : List UInt8) (hk : k.length = 32) :
    Calls Try.prog 6 #[keyV i, keyV j, keyV k] w (RetV w (.bool true)) := by
  obtain ⟨ni, hni⟩ : ∃ v, v = numK i := ⟨_, rfl⟩
  have bni : ni < pF := by rw [hni]; exact numK_lt i
  have Li := Lib.hid hi
  obtain ⟨nj, hnj⟩ : ∃ v, v = numK j := ⟨_, rfl⟩
  have bnj : nj < pF := by rw [hnj]; exact numK_lt j
  have Lj := Lib.hid hj
  obtain ⟨nk, hnk⟩ : ∃ v, v = numK k := ⟨_, rfl⟩
  have bnk : nk < pF := by rw [hnk]; exact numK_lt k
  have Lk := Lib.hid hk
  have C17 : Hid (∀ w, Calls Try.prog 11 #[] w (RetV w (.bool true))) := fun w => awake_any w
  have C19 : Hid (∀ w, Calls Try.prog 19 #[.agg (keyC (i))] w (RetV w (.agg (natsC (elemL ni))))) := by rw [hni]; exact fun w => of_any i hi w
  have C21 : Hid (∀ w, Calls Try.prog 19 #[.agg (keyC (j))] w (RetV w (.agg (natsC (elemL nj))))) := by rw [hnj]; exact fun w => of_any j hj w
  have C23 : Hid (∀ w, Calls Try.prog 19 #[.agg (keyC (k))] w (RetV w (.agg (natsC (elemL nk))))) := by rw [hnk]; exact fun w => of_any k hk w
  obtain ⟨v26, hv26⟩ : ∃ v, v = (ni + nj) % pF := ⟨_, rfl⟩
  have bv26 : v26 < pF := by rw [hv26]; exact modF_lt _
  have C26 : Hid (∀ w, Calls Try.prog 20 #[.agg (natsC (elemL ni)), .agg (natsC (elemL nj))] w (RetV w (.agg (natsC (elemL v26))))) := by rw [hv26]; exact fun w => Add_any ni nj bni bnj w
  obtain ⟨v29, hv29⟩ : ∃ v, v = (nj + ni) % pF := ⟨_, rfl⟩
  have bv29 : v29 < pF := by rw [hv29]; exact modF_lt _
  have C29 : Hid (∀ w, Calls Try.prog 20 #[.agg (natsC (elemL nj)), .agg (natsC (elemL ni))] w (RetV w (.agg (natsC (elemL v29))))) := by rw [hv29]; exact fun w => Add_any nj ni bnj bni w
  have q30 : (v26 == v29) = true := by rw [beq_iff_eq, hv26, hv29, Nat.add_comm]
  have C30 : Hid (∀ w, Calls Try.prog 26 #[.agg (natsC (elemL v26)), .agg (natsC (elemL v29))] w (RetV w (.bool true))) := fun w => by have h := Equal_any v26 v29 bv26 bv29 w; rwa [q30] at h
  obtain ⟨v33, hv33⟩ : ∃ v, v = ni * nj % pF := ⟨_, rfl⟩
  have bv33 : v33 < pF := by rw [hv33]; exact modF_lt _
  have C33 : Hid (∀ w, Calls Try.prog 22 #[.agg (natsC (elemL ni)), .agg (natsC (elemL nj))] w (RetV w (.agg (natsC (elemL v33))))) := by rw [hv33]; exact fun w => Mul_any ni nj bni bnj w
  obtain ⟨v36, hv36⟩ : ∃ v, v = nj * ni % pF := ⟨_, rfl⟩
  have bv36 : v36 < pF := by rw [hv36]; exact modF_lt _
  have C36 : Hid (∀ w, Calls Try.prog 22 #[.agg (natsC (elemL nj)), .agg (natsC (elemL ni))] w (RetV w (.agg (natsC (elemL v36))))) := by rw [hv36]; exact fun w => Mul_any nj ni bnj bni w
  have q37 : (v33 == v36) = true := by rw [beq_iff_eq, hv33, hv36, Nat.mul_comm]
  have C37 : Hid (∀ w, Calls Try.prog 26 #[.agg (natsC (elemL v33)), .agg (natsC (elemL v36))] w (RetV w (.bool true))) := fun w => by have h := Equal_any v33 v36 bv33 bv36 w; rwa [q37] at h
  obtain ⟨v42, hv42⟩ : ∃ v, v = (v26 + nk) % pF := ⟨_, rfl⟩
  have bv42 : v42 < pF := by rw [hv42]; exact modF_lt _
  have C42 : Hid (∀ w, Calls Try.prog 20 #[.agg (natsC (elemL v26)), .agg (natsC (elemL nk))] w (RetV w (.agg (natsC (elemL v42))))) := by rw [hv42]; exact fun w => Add_any v26 nk bv26 bnk w
  obtain ⟨v46, hv46⟩ : ∃ v, v = (nj + nk) % pF := ⟨_, rfl⟩
  have bv46 : v46 < pF := by rw [hv46]; exact modF_lt _
  have C46 : Hid (∀ w, Calls Try.prog 20 #[.agg (natsC (elemL nj)), .agg (natsC (elemL nk))] w (RetV w (.agg (natsC (elemL v46))))) := by rw [hv46]; exact fun w => Add_any nj nk bnj bnk w
  obtain ⟨v47, hv47⟩ : ∃ v, v = (ni + v46) % pF := ⟨_, rfl⟩
  have bv47 : v47 < pF := by rw [hv47]; exact modF_lt _
  have C47 : Hid (∀ w, Calls Try.prog 20 #[.agg (natsC (elemL ni)), .agg (natsC (elemL v46))] w (RetV w (.agg (natsC (elemL v47))))) := by rw [hv47]; exact fun w => Add_any ni v46 bni bv46 w
  have q48 : (v42 == v47) = true := by rw [beq_iff_eq, hv42, hv26, hv47, hv46]; exact add_assocF _ _ _
  have C48 : Hid (∀ w, Calls Try.prog 26 #[.agg (natsC (elemL v42)), .agg (natsC (elemL v47))] w (RetV w (.bool true))) := fun w => by have h := Equal_any v42 v47 bv42 bv47 w; rwa [q48] at h
  obtain ⟨v53, hv53⟩ : ∃ v, v = v33 * nk % pF := ⟨_, rfl⟩
  have bv53 : v53 < pF := by rw [hv53]; exact modF_lt _
  have C53 : Hid (∀ w, Calls Try.prog 22 #[.agg (natsC (elemL v33)), .agg (natsC (elemL nk))] w (RetV w (.agg (natsC (elemL v53))))) := by rw [hv53]; exact fun w => Mul_any v33 nk bv33 bnk w
  obtain ⟨v57, hv57⟩ : ∃ v, v = nj * nk % pF := ⟨_, rfl⟩
  have bv57 : v57 < pF := by rw [hv57]; exact modF_lt _
  have C57 : Hid (∀ w, Calls Try.prog 22 #[.agg (natsC (elemL nj)), .agg (natsC (elemL nk))] w (RetV w (.agg (natsC (elemL v57))))) := by rw [hv57]; exact fun w => Mul_any nj nk bnj bnk w
  obtain ⟨v58, hv58⟩ : ∃ v, v = ni * v57 % pF := ⟨_, rfl⟩
  have bv58 : v58 < pF := by rw [hv58]; exact modF_lt _
  have C58 : Hid (∀ w, Calls Try.prog 22 #[.agg (natsC (elemL ni)), .agg (natsC (elemL v57))] w (RetV w (.agg (natsC (elemL v58))))) := by rw [hv58]; exact fun w => Mul_any ni v57 bni bv57 w
  have q59 : (v53 == v58) = true := by rw [beq_iff_eq, hv53, hv33, hv58, hv57]; exact mul_assocF _ _ _
  have C59 : Hid (∀ w, Calls Try.prog 26 #[.agg (natsC (elemL v53)), .agg (natsC (elemL v58))] w (RetV w (.bool true))) := fun w => by have h := Equal_any v53 v58 bv53 bv58 w; rwa [q59] at h
  obtain ⟨v64, hv64⟩ : ∃ v, v = ni * v46 % pF := ⟨_, rfl⟩
  have bv64 : v64 < pF := by rw [hv64]; exact modF_lt _
  have C64 : Hid (∀ w, Calls Try.prog 22 #[.agg (natsC (elemL ni)), .agg (natsC (elemL v46))] w (RetV w (.agg (natsC (elemL v64))))) := by rw [hv64]; exact fun w => Mul_any ni v46 bni bv46 w
  obtain ⟨v70, hv70⟩ : ∃ v, v = ni * nk % pF := ⟨_, rfl⟩
  have bv70 : v70 < pF := by rw [hv70]; exact modF_lt _
  have C70 : Hid (∀ w, Calls Try.prog 22 #[.agg (natsC (elemL ni)), .agg (natsC (elemL nk))] w (RetV w (.agg (natsC (elemL v70))))) := by rw [hv70]; exact fun w => Mul_any ni nk bni bnk w
  obtain ⟨v71, hv71⟩ : ∃ v, v = (v33 + v70) % pF := ⟨_, rfl⟩
  have bv71 : v71 < pF := by rw [hv71]; exact modF_lt _
  have C71 : Hid (∀ w, Calls Try.prog 20 #[.agg (natsC (elemL v33)), .agg (natsC (elemL v70))] w (RetV w (.agg (natsC (elemL v71))))) := by rw [hv71]; exact fun w => Add_any v33 v70 bv33 bv70 w
  have q72 : (v64 == v71) = true := by rw [beq_iff_eq, hv64, hv46, hv71, hv33, hv70]; exact mul_addF _ _ _
  have C72 : Hid (∀ w, Calls Try.prog 26 #[.agg (natsC (elemL v64)), .agg (natsC (elemL v71))] w (RetV w (.bool true))) := fun w => by have h := Equal_any v64 v71 bv64 bv71 w; rwa [q72] at h
  obtain ⟨v76, hv76⟩ : ∃ v, v = subF nj nk := ⟨_, rfl⟩
  have bv76 : v76 < pF := by rw [hv76]; exact subF_lt _ _
  have C76 : Hid (∀ w, Calls Try.prog 21 #[.agg (natsC (elemL nj)), .agg (natsC (elemL nk))] w (RetV w (.agg (natsC (elemL v76))))) := by rw [hv76]; exact fun w => Sub_any nj nk bnj bnk w
  obtain ⟨v77, hv77⟩ : ∃ v, v = ni * v76 % pF := ⟨_, rfl⟩
  have bv77 : v77 < pF := by rw [hv77]; exact modF_lt _
  have C77 : Hid (∀ w, Calls Try.prog 22 #[.agg (natsC (elemL ni)), .agg (natsC (elemL v76))] w (RetV w (.agg (natsC (elemL v77))))) := by rw [hv77]; exact fun w => Mul_any ni v76 bni bv76 w
  obtain ⟨v84, hv84⟩ : ∃ v, v = subF v33 v70 := ⟨_, rfl⟩
  have bv84 : v84 < pF := by rw [hv84]; exact subF_lt _ _
  have C84 : Hid (∀ w, Calls Try.prog 21 #[.agg (natsC (elemL v33)), .agg (natsC (elemL v70))] w (RetV w (.agg (natsC (elemL v84))))) := by rw [hv84]; exact fun w => Sub_any v33 v70 bv33 bv70 w
  have q85 : (v77 == v84) = true := by rw [beq_iff_eq, hv77, hv76, hv84, hv33, hv70]; exact mul_subF _ _ _ bni bnj bnk
  have C85 : Hid (∀ w, Calls Try.prog 26 #[.agg (natsC (elemL v77)), .agg (natsC (elemL v84))] w (RetV w (.bool true))) := fun w => by have h := Equal_any v77 v84 bv77 bv84 w; rwa [q85] at h
  clear hni hnj hnk bni bnj bnk hi hj hk hv26 bv26 hv29 bv29 q30 hv33 bv33 hv36 bv36 q37 hv42 bv42 hv46 bv46 hv47 bv47 q48 hv53 bv53 hv57 bv57 hv58 bv58 q59 hv64 bv64 hv70 bv70 hv71 bv71 q72 hv76 bv76 hv77 bv77 hv84 bv84 q85
  have E0 := Lib.hid (Env.start w)
  go_enter Try.func6, Try.ntmps6
  go_wp2_with (first
    | ((with_reducible refine wpE_box (o := ⟨some 3, _, _, _, _, _⟩) rfl 23 (.tmp 0) rfl (keyC (i)) (by with_unfolding_all rfl) E0.out ?_); intro g1 w1 T1; have E1 := Lib.hid T1; clear T1)
    | ((with_reducible refine wpE_box (o := ⟨some 4, _, _, _, _, _⟩) rfl 23 (.tmp 1) rfl (keyC (j)) (by with_unfolding_all rfl) E1.out ?_); intro g2 w2 T2; have E2 := Lib.hid T2; clear T2)
    | ((with_reducible refine wpE_box (o := ⟨some 5, _, _, _, _, _⟩) rfl 23 (.tmp 2) rfl (keyC (k)) (by with_unfolding_all rfl) E2.out ?_); intro g3 w3 T3; have E3 := Lib.hid T3; clear T3))
  refine (C17.out _).mono ?_
  rintro e w4 ⟨rfl, b4⟩
  have E4 := Lib.hid (E3.out.call b4)
  clear b4 E3
  go_wp2_with (first
    | (with_reducible refine wpE_load (o := ⟨some 18, _, _, _, _, _⟩) rfl 23 (.tmp 3) rfl 2 g1 23 (keyC (i)) _ (by with_unfolding_all rfl) (by with_unfolding_all rfl) Try.underlying23 rfl (Try.sizeKey _ Li.out) E4.out ?_))
  refine (C19.out _).mono ?_
  rintro e w5 ⟨rfl, b5⟩
  have E5 := Lib.hid (E4.out.call b5)
  clear b5 E4
  go_wp2_with (first
    | ((with_reducible refine wpE_alloc (o := ⟨some 8, _, _, _, _, _⟩) rfl 29 rfl (natsC (zero5)) Try.zero5e E5.out ?_); intro g4 w6 T6; have E6 := Lib.hid T6; clear T6)
    | ((with_reducible refine wpE_store (o := ⟨none, _, _, _, _, _⟩) rfl 29 (.tmp 8) (.tmp 19) rfl 0 g4 29 (natsC (zero5)) (natsC (elemL ni)) (by with_unfolding_all rfl) (by with_unfolding_all rfl) (by with_unfolding_all rfl) (natsC_same zero5_length (elemL_length _)) (sizeN Try.sz5e _ (elemL_length _)) (natsC_one _) E6.out ?_); intro w7 T7; simp only [List.set_cons_zero] at T7; have E7 := Lib.hid T7; clear T7)
    | (with_reducible refine wpE_load (o := ⟨some 20, _, _, _, _, _⟩) rfl 23 (.tmp 4) rfl 2 g2 23 (keyC (j)) _ (by with_unfolding_all rfl) (by with_unfolding_all rfl) Try.underlying23 rfl (Try.sizeKey _ Lj.out) E7.out ?_))
  refine (C21.out _).mono ?_
  rintro e w8 ⟨rfl, b8⟩
  have E8 := Lib.hid (E7.out.call b8)
  clear b8 E7
  go_wp2_with (first
    | ((with_reducible refine wpE_alloc (o := ⟨some 9, _, _, _, _, _⟩) rfl 29 rfl (natsC (zero5)) Try.zero5e E8.out ?_); intro g5 w9 T9; have E9 := Lib.hid T9; clear T9)
    | ((with_reducible refine wpE_store (o := ⟨none, _, _, _, _, _⟩) rfl 29 (.tmp 9) (.tmp 21) rfl 0 g5 29 (natsC (zero5)) (natsC (elemL nj)) (by with_unfolding_all rfl) (by with_unfolding_all rfl) (by with_unfolding_all rfl) (natsC_same zero5_length (elemL_length _)) (sizeN Try.sz5e _ (elemL_length _)) (natsC_one _) E9.out ?_); intro w10 T10; simp only [List.set_cons_zero] at T10; have E10 := Lib.hid T10; clear T10)
    | (with_reducible refine wpE_load (o := ⟨some 22, _, _, _, _, _⟩) rfl 23 (.tmp 5) rfl 2 g3 23 (keyC (k)) _ (by with_unfolding_all rfl) (by with_unfolding_all rfl) Try.underlying23 rfl (Try.sizeKey _ Lk.out) E10.out ?_))
  refine (C23.out _).mono ?_
  rintro e w11 ⟨rfl, b11⟩
  have E11 := Lib.hid (E10.out.call b11)
  clear b11 E10
  go_wp2_with (first
    | ((with_reducible refine wpE_alloc (o := ⟨some 10, _, _, _, _, _⟩) rfl 29 rfl (natsC (zero5)) Try.zero5e E11.out ?_); intro g6 w12 T12; have E12 := Lib.hid T12; clear T12)
    | ((with_reducible refine wpE_store (o := ⟨none, _, _, _, _, _⟩) rfl 29 (.tmp 10) (.tmp 23) rfl 0 g6 29 (natsC (zero5)) (natsC (elemL nk)) (by with_unfolding_all rfl) (by with_unfolding_all rfl) (by with_unfolding_all rfl) (natsC_same zero5_length (elemL_length _)) (sizeN Try.sz5e _ (elemL_length _)) (natsC_one _) E12.out ?_); intro w13 T13; simp only [List.set_cons_zero] at T13; have E13 := Lib.hid T13; clear T13))
  refine region_class _ E13.out.drew (by kernel_rfl) (by kernel_rfl) ?_
  refine qE_load (by rfl) _ (.tmp 8) rfl 2 g4 29 (natsC (elemL ni)) _ rfl rfl Try.underlying29 rfl (sizeN Try.sz5e _ (elemL_length _)) ?_
  simp only [Act.put, List.setIfInBounds_toArray, List.set_cons_zero, List.set_cons_succ]
  refine qE_load (by rfl) _ (.tmp 9) rfl 1 g5 29 (natsC (elemL nj)) _ rfl rfl Try.underlying29 rfl (sizeN Try.sz5e _ (elemL_length _)) ?_
  simp only [Act.put, List.setIfInBounds_toArray, List.set_cons_zero, List.set_cons_succ]
  refine q_call (by rfl) 20 _ (fun W => by go_simp) (fun W hW => hW.calls (C26.out W)) ?_
  simp only [Act.put, List.setIfInBounds_toArray, List.set_cons_zero, List.set_cons_succ]
  refine qE_load (by rfl) _ (.tmp 9) rfl 1 g5 29 (natsC (elemL nj)) _ rfl rfl Try.underlying29 rfl (sizeN Try.sz5e _ (elemL_length _)) ?_
  simp only [Act.put, List.setIfInBounds_toArray, List.set_cons_zero, List.set_cons_succ]
  refine qE_load (by rfl) _ (.tmp 8) rfl 2 g4 29 (natsC (elemL ni)) _ rfl rfl Try.underlying29 rfl (sizeN Try.sz5e _ (elemL_length _)) ?_
  simp only [Act.put, List.setIfInBounds_toArray, List.set_cons_zero, List.set_cons_succ]
  refine q_call (by rfl) 20 _ (fun W => by go_simp) (fun W hW => hW.calls (C29.out W)) ?_
  simp only [Act.put, List.setIfInBounds_toArray, List.set_cons_zero, List.set_cons_succ]
  refine q_call (by rfl) 26 _ (fun W => by go_simp) (fun W hW => hW.calls (C30.out W)) ?_
  simp only [Act.put, List.setIfInBounds_toArray, List.set_cons_zero, List.set_cons_succ]
  refine q_run (by rfl) (v := .bool true) (fun W _ => by go_simp) ?_
  simp only [Act.put, List.setIfInBounds_toArray, List.set_cons_zero, List.set_cons_succ]
  refine wpQuiet_nil ?_
  intro w14 T14
  have E14 := Lib.hid T14
  clear T14 E13
  go_wp2_with fail
  refine region_class _ E14.out.drew (by kernel_rfl) (by kernel_rfl) ?_
  refine qE_load (by rfl) _ (.tmp 8) rfl 2 g4 29 (natsC (elemL ni)) _ rfl rfl Try.underlying29 rfl (sizeN Try.sz5e _ (elemL_length _)) ?_
  simp only [Act.put, List.setIfInBounds_toArray, List.set_cons_zero, List.set_cons_succ]
  refine qE_load (by rfl) _ (.tmp 9) rfl 1 g5 29 (natsC (elemL nj)) _ rfl rfl Try.underlying29 rfl (sizeN Try.sz5e _ (elemL_length _)) ?_
  simp only [Act.put, List.setIfInBounds_toArray, List.set_cons_zero, List.set_cons_succ]
  refine q_call (by rfl) 22 _ (fun W => by go_simp) (fun W hW => hW.calls (C33.out W)) ?_
  simp only [Act.put, List.setIfInBounds_toArray, List.set_cons_zero, List.set_cons_succ]
  refine qE_load (by rfl) _ (.tmp 9) rfl 1 g5 29 (natsC (elemL nj)) _ rfl rfl Try.underlying29 rfl (sizeN Try.sz5e _ (elemL_length _)) ?_
  simp only [Act.put, List.setIfInBounds_toArray, List.set_cons_zero, List.set_cons_succ]
  refine qE_load (by rfl) _ (.tmp 8) rfl 2 g4 29 (natsC (elemL ni)) _ rfl rfl Try.underlying29 rfl (sizeN Try.sz5e _ (elemL_length _)) ?_
  simp only [Act.put, List.setIfInBounds_toArray, List.set_cons_zero, List.set_cons_succ]
  refine q_call (by rfl) 22 _ (fun W => by go_simp) (fun W hW => hW.calls (C36.out W)) ?_
  simp only [Act.put, List.setIfInBounds_toArray, List.set_cons_zero, List.set_cons_succ]
  refine q_call (by rfl) 26 _ (fun W => by go_simp) (fun W hW => hW.calls (C37.out W)) ?_
  simp only [Act.put, List.setIfInBounds_toArray, List.set_cons_zero, List.set_cons_succ]
  refine q_run (by rfl) (v := .bool true) (fun W _ => by go_simp) ?_
  simp only [Act.put, List.setIfInBounds_toArray, List.set_cons_zero, List.set_cons_succ]
  refine wpQuiet_nil ?_
  intro w15 T15
  have E15 := Lib.hid T15
  clear T15 E14
  go_wp2_with fail
  refine region_class _ E15.out.drew (by kernel_rfl) (by kernel_rfl) ?_
  refine qE_load (by rfl) _ (.tmp 8) rfl 2 g4 29 (natsC (elemL ni)) _ rfl rfl Try.underlying29 rfl (sizeN Try.sz5e _ (elemL_length _)) ?_
  simp only [Act.put, List.setIfInBounds_toArray, List.set_cons_zero, List.set_cons_succ]
  refine qE_load (by rfl) _ (.tmp 9) rfl 1 g5 29 (natsC (elemL nj)) _ rfl rfl Try.underlying29 rfl (sizeN Try.sz5e _ (elemL_length _)) ?_
  simp only [Act.put, List.setIfInBounds_toArray, List.set_cons_zero, List.set_cons_succ]
  refine q_call (by rfl) 20 _ (fun W => by go_simp) (fun W hW => hW.calls (C26.out W)) ?_
  simp only [Act.put, List.setIfInBounds_toArray, List.set_cons_zero, List.set_cons_succ]
  refine qE_load (by rfl) _ (.tmp 10) rfl 0 g6 29 (natsC (elemL nk)) _ rfl rfl Try.underlying29 rfl (sizeN Try.sz5e _ (elemL_length _)) ?_
  simp only [Act.put, List.setIfInBounds_toArray, List.set_cons_zero, List.set_cons_succ]
  refine q_call (by rfl) 20 _ (fun W => by go_simp) (fun W hW => hW.calls (C42.out W)) ?_
  simp only [Act.put, List.setIfInBounds_toArray, List.set_cons_zero, List.set_cons_succ]
  refine qE_load (by rfl) _ (.tmp 8) rfl 2 g4 29 (natsC (elemL ni)) _ rfl rfl Try.underlying29 rfl (sizeN Try.sz5e _ (elemL_length _)) ?_
  simp only [Act.put, List.setIfInBounds_toArray, List.set_cons_zero, List.set_cons_succ]
  refine qE_load (by rfl) _ (.tmp 9) rfl 1 g5 29 (natsC (elemL nj)) _ rfl rfl Try.underlying29 rfl (sizeN Try.sz5e _ (elemL_length _)) ?_
  simp only [Act.put, List.setIfInBounds_toArray, List.set_cons_zero, List.set_cons_succ]
  refine qE_load (by rfl) _ (.tmp 10) rfl 0 g6 29 (natsC (elemL nk)) _ rfl rfl Try.underlying29 rfl (sizeN Try.sz5e _ (elemL_length _)) ?_
  simp only [Act.put, List.setIfInBounds_toArray, List.set_cons_zero, List.set_cons_succ]
  refine q_call (by rfl) 20 _ (fun W => by go_simp) (fun W hW => hW.calls (C46.out W)) ?_
  simp only [Act.put, List.setIfInBounds_toArray, List.set_cons_zero, List.set_cons_succ]
  refine q_call (by rfl) 20 _ (fun W => by go_simp) (fun W hW => hW.calls (C47.out W)) ?_
  simp only [Act.put, List.setIfInBounds_toArray, List.set_cons_zero, List.set_cons_succ]
  refine q_call (by rfl) 26 _ (fun W => by go_simp) (fun W hW => hW.calls (C48.out W)) ?_
  simp only [Act.put, List.setIfInBounds_toArray, List.set_cons_zero, List.set_cons_succ]
  refine q_run (by rfl) (v := .bool true) (fun W _ => by go_simp) ?_
  simp only [Act.put, List.setIfInBounds_toArray, List.set_cons_zero, List.set_cons_succ]
  refine wpQuiet_nil ?_
  intro w16 T16
  have E16 := Lib.hid T16
  clear T16 E15
  go_wp2_with fail
  refine region_class _ E16.out.drew (by kernel_rfl) (by kernel_rfl) ?_
  refine qE_load (by rfl) _ (.tmp 8) rfl 2 g4 29 (natsC (elemL ni)) _ rfl rfl Try.underlying29 rfl (sizeN Try.sz5e _ (elemL_length _)) ?_
  simp only [Act.put, List.setIfInBounds_toArray, List.set_cons_zero, List.set_cons_succ]
  refine qE_load (by rfl) _ (.tmp 9) rfl 1 g5 29 (natsC (elemL nj)) _ rfl rfl Try.underlying29 rfl (sizeN Try.sz5e _ (elemL_length _)) ?_
  simp only [Act.put, List.setIfInBounds_toArray, List.set_cons_zero, List.set_cons_succ]
  refine q_call (by rfl) 22 _ (fun W => by go_simp) (fun W hW => hW.calls (C33.out W)) ?_
  simp only [Act.put, List.setIfInBounds_toArray, List.set_cons_zero, List.set_cons_succ]
  refine qE_load (by rfl) _ (.tmp 10) rfl 0 g6 29 (natsC (elemL nk)) _ rfl rfl Try.underlying29 rfl (sizeN Try.sz5e _ (elemL_length _)) ?_
  simp only [Act.put, List.setIfInBounds_toArray, List.set_cons_zero, List.set_cons_succ]
  refine q_call (by rfl) 22 _ (fun W => by go_simp) (fun W hW => hW.calls (C53.out W)) ?_
  simp only [Act.put, List.setIfInBounds_toArray, List.set_cons_zero, List.set_cons_succ]
  refine qE_load (by rfl) _ (.tmp 8) rfl 2 g4 29 (natsC (elemL ni)) _ rfl rfl Try.underlying29 rfl (sizeN Try.sz5e _ (elemL_length _)) ?_
  simp only [Act.put, List.setIfInBounds_toArray, List.set_cons_zero, List.set_cons_succ]
  refine qE_load (by rfl) _ (.tmp 9) rfl 1 g5 29 (natsC (elemL nj)) _ rfl rfl Try.underlying29 rfl (sizeN Try.sz5e _ (elemL_length _)) ?_
  simp only [Act.put, List.setIfInBounds_toArray, List.set_cons_zero, List.set_cons_succ]
  refine qE_load (by rfl) _ (.tmp 10) rfl 0 g6 29 (natsC (elemL nk)) _ rfl rfl Try.underlying29 rfl (sizeN Try.sz5e _ (elemL_length _)) ?_
  simp only [Act.put, List.setIfInBounds_toArray, List.set_cons_zero, List.set_cons_succ]
  refine q_call (by rfl) 22 _ (fun W => by go_simp) (fun W hW => hW.calls (C57.out W)) ?_
  simp only [Act.put, List.setIfInBounds_toArray, List.set_cons_zero, List.set_cons_succ]
  refine q_call (by rfl) 22 _ (fun W => by go_simp) (fun W hW => hW.calls (C58.out W)) ?_
  simp only [Act.put, List.setIfInBounds_toArray, List.set_cons_zero, List.set_cons_succ]
  refine q_call (by rfl) 26 _ (fun W => by go_simp) (fun W hW => hW.calls (C59.out W)) ?_
  simp only [Act.put, List.setIfInBounds_toArray, List.set_cons_zero, List.set_cons_succ]
  refine q_run (by rfl) (v := .bool true) (fun W _ => by go_simp) ?_
  simp only [Act.put, List.setIfInBounds_toArray, List.set_cons_zero, List.set_cons_succ]
  refine wpQuiet_nil ?_
  intro w17 T17
  have E17 := Lib.hid T17
  clear T17 E16
  go_wp2_with fail
  refine region_class _ E17.out.drew (by kernel_rfl) (by kernel_rfl) ?_
  refine qE_load (by rfl) _ (.tmp 8) rfl 2 g4 29 (natsC (elemL ni)) _ rfl rfl Try.underlying29 rfl (sizeN Try.sz5e _ (elemL_length _)) ?_
  simp only [Act.put, List.setIfInBounds_toArray, List.set_cons_zero, List.set_cons_succ]
  refine qE_load (by rfl) _ (.tmp 9) rfl 1 g5 29 (natsC (elemL nj)) _ rfl rfl Try.underlying29 rfl (sizeN Try.sz5e _ (elemL_length _)) ?_
  simp only [Act.put, List.setIfInBounds_toArray, List.set_cons_zero, List.set_cons_succ]
  refine qE_load (by rfl) _ (.tmp 10) rfl 0 g6 29 (natsC (elemL nk)) _ rfl rfl Try.underlying29 rfl (sizeN Try.sz5e _ (elemL_length _)) ?_
  simp only [Act.put, List.setIfInBounds_toArray, List.set_cons_zero, List.set_cons_succ]
  refine q_call (by rfl) 20 _ (fun W => by go_simp) (fun W hW => hW.calls (C46.out W)) ?_
  simp only [Act.put, List.setIfInBounds_toArray, List.set_cons_zero, List.set_cons_succ]
  refine q_call (by rfl) 22 _ (fun W => by go_simp) (fun W hW => hW.calls (C64.out W)) ?_
  simp only [Act.put, List.setIfInBounds_toArray, List.set_cons_zero, List.set_cons_succ]
  refine qE_load (by rfl) _ (.tmp 8) rfl 2 g4 29 (natsC (elemL ni)) _ rfl rfl Try.underlying29 rfl (sizeN Try.sz5e _ (elemL_length _)) ?_
  simp only [Act.put, List.setIfInBounds_toArray, List.set_cons_zero, List.set_cons_succ]
  refine qE_load (by rfl) _ (.tmp 9) rfl 1 g5 29 (natsC (elemL nj)) _ rfl rfl Try.underlying29 rfl (sizeN Try.sz5e _ (elemL_length _)) ?_
  simp only [Act.put, List.setIfInBounds_toArray, List.set_cons_zero, List.set_cons_succ]
  refine q_call (by rfl) 22 _ (fun W => by go_simp) (fun W hW => hW.calls (C33.out W)) ?_
  simp only [Act.put, List.setIfInBounds_toArray, List.set_cons_zero, List.set_cons_succ]
  refine qE_load (by rfl) _ (.tmp 8) rfl 2 g4 29 (natsC (elemL ni)) _ rfl rfl Try.underlying29 rfl (sizeN Try.sz5e _ (elemL_length _)) ?_
  simp only [Act.put, List.setIfInBounds_toArray, List.set_cons_zero, List.set_cons_succ]
  refine qE_load (by rfl) _ (.tmp 10) rfl 0 g6 29 (natsC (elemL nk)) _ rfl rfl Try.underlying29 rfl (sizeN Try.sz5e _ (elemL_length _)) ?_
  simp only [Act.put, List.setIfInBounds_toArray, List.set_cons_zero, List.set_cons_succ]
  refine q_call (by rfl) 22 _ (fun W => by go_simp) (fun W hW => hW.calls (C70.out W)) ?_
  simp only [Act.put, List.setIfInBounds_toArray, List.set_cons_zero, List.set_cons_succ]
  refine q_call (by rfl) 20 _ (fun W => by go_simp) (fun W hW => hW.calls (C71.out W)) ?_
  simp only [Act.put, List.setIfInBounds_toArray, List.set_cons_zero, List.set_cons_succ]
  refine q_call (by rfl) 26 _ (fun W => by go_simp) (fun W hW => hW.calls (C72.out W)) ?_
  simp only [Act.put, List.setIfInBounds_toArray, List.set_cons_zero, List.set_cons_succ]
  refine q_run (by rfl) (v := .bool true) (fun W _ => by go_simp) ?_
  simp only [Act.put, List.setIfInBounds_toArray, List.set_cons_zero, List.set_cons_succ]
  refine wpQuiet_nil ?_
  intro w18 T18
  have E18 := Lib.hid T18
  clear T18 E17
  go_wp2_with fail
  refine region_class _ E18.out.drew (by kernel_rfl) (by kernel_rfl) ?_
  refine qE_load (by rfl) _ (.tmp 8) rfl 2 g4 29 (natsC (elemL ni)) _ rfl rfl Try.underlying29 rfl (sizeN Try.sz5e _ (elemL_length _)) ?_
  simp only [Act.put, List.setIfInBounds_toArray, List.set_cons_zero, List.set_cons_succ]
  refine qE_load (by rfl) _ (.tmp 9) rfl 1 g5 29 (natsC (elemL nj)) _ rfl rfl Try.underlying29 rfl (sizeN Try.sz5e _ (elemL_length _)) ?_
  simp only [Act.put, List.setIfInBounds_toArray, List.set_cons_zero, List.set_cons_succ]
  refine qE_load (by rfl) _ (.tmp 10) rfl 0 g6 29 (natsC (elemL nk)) _ rfl rfl Try.underlying29 rfl (sizeN Try.sz5e _ (elemL_length _)) ?_
  simp only [Act.put, List.setIfInBounds_toArray, List.set_cons_zero, List.set_cons_succ]
  refine q_call (by rfl) 21 _ (fun W => by go_simp) (fun W hW => hW.calls (C76.out W)) ?_
  simp only [Act.put, List.setIfInBounds_toArray, List.set_cons_zero, List.set_cons_succ]
  refine q_call (by rfl) 22 _ (fun W => by go_simp) (fun W hW => hW.calls (C77.out W)) ?_
  simp only [Act.put, List.setIfInBounds_toArray, List.set_cons_zero, List.set_cons_succ]
  refine qE_load (by rfl) _ (.tmp 8) rfl 2 g4 29 (natsC (elemL ni)) _ rfl rfl Try.underlying29 rfl (sizeN Try.sz5e _ (elemL_length _)) ?_
  simp only [Act.put, List.setIfInBounds_toArray, List.set_cons_zero, List.set_cons_succ]
  refine qE_load (by rfl) _ (.tmp 9) rfl 1 g5 29 (natsC (elemL nj)) _ rfl rfl Try.underlying29 rfl (sizeN Try.sz5e _ (elemL_length _)) ?_
  simp only [Act.put, List.setIfInBounds_toArray, List.set_cons_zero, List.set_cons_succ]
  refine q_call (by rfl) 22 _ (fun W => by go_simp) (fun W hW => hW.calls (C33.out W)) ?_
  simp only [Act.put, List.setIfInBounds_toArray, List.set_cons_zero, List.set_cons_succ]
  refine qE_load (by rfl) _ (.tmp 8) rfl 2 g4 29 (natsC (elemL ni)) _ rfl rfl Try.underlying29 rfl (sizeN Try.sz5e _ (elemL_length _)) ?_
  simp only [Act.put, List.setIfInBounds_toArray, List.set_cons_zero, List.set_cons_succ]
  refine qE_load (by rfl) _ (.tmp 10) rfl 0 g6 29 (natsC (elemL nk)) _ rfl rfl Try.underlying29 rfl (sizeN Try.sz5e _ (elemL_length _)) ?_
  simp only [Act.put, List.setIfInBounds_toArray, List.set_cons_zero, List.set_cons_succ]
  refine q_call (by rfl) 22 _ (fun W => by go_simp) (fun W hW => hW.calls (C70.out W)) ?_
  simp only [Act.put, List.setIfInBounds_toArray, List.set_cons_zero, List.set_cons_succ]
  refine q_call (by rfl) 21 _ (fun W => by go_simp) (fun W hW => hW.calls (C84.out W)) ?_
  simp only [Act.put, List.setIfInBounds_toArray, List.set_cons_zero, List.set_cons_succ]
  refine q_call (by rfl) 26 _ (fun W => by go_simp) (fun W hW => hW.calls (C85.out W)) ?_
  simp only [Act.put, List.setIfInBounds_toArray, List.set_cons_zero, List.set_cons_succ]
  refine q_run (by rfl) (v := .bool true) (fun W _ => by go_simp) ?_
  simp only [Act.put, List.setIfInBounds_toArray, List.set_cons_zero, List.set_cons_succ]
  refine wpQuiet_nil ?_
  intro w19 T19
  have E19 := Lib.hid T19
  clear T19 E18
  go_wp2_with fail
  go_ret
  exact E19.out.ret _
end Go.Proofs.Ytejingggfbmbjaa
