/-
  FieldBack, walked: the call returns true. Conditions: none beyond the law's own.
-/
import Derived.Test.YtejingggfbmbjaaFieldM
import Derived.Test.YtejingggfbmbjaaFieldPrime
import Derived.Test.YtejingggfbmbjaaEnvS
namespace Go.Proofs.Ytejingggfbmbjaa
open Go.RowKit
set_option linter.unusedVariables false
set_option maxRecDepth 20000

theorem sub_self (a : Nat) (h : a < pF) : subF a a = 0 := by
  unfold subF
  rw [show a + (pF - a) = pF by omega, Nat.mod_self]

set_option maxHeartbeats 8000000 in
theorem fieldBack_walk (w : World) (i : List UInt8) (hi : i.length = 32) (j : List UInt8) (hj : j.length = 32) :
    Calls Try.prog 7 #[keyV i, keyV j] w (RetV w (.bool true)) := by
  obtain ⟨ni, hni⟩ : ∃ v, v = numK i := ⟨_, rfl⟩
  have bni : ni < pF := by rw [hni]; exact numK_lt i
  have Li := Lib.hid hi
  obtain ⟨nj, hnj⟩ : ∃ v, v = numK j := ⟨_, rfl⟩
  have bnj : nj < pF := by rw [hnj]; exact numK_lt j
  have Lj := Lib.hid hj
  by_cases hx0 : ni = 0
  · have C17 : Hid (∀ w, Calls Try.prog 11 #[] w (RetV w (.bool true))) := fun w => awake_any w
    have C19 : Hid (∀ w, Calls Try.prog 19 #[.agg (keyC (i))] w (RetV w (.agg (natsC (elemL ni))))) := by rw [hni]; exact fun w => of_any i hi w
    have C21 : Hid (∀ w, Calls Try.prog 19 #[.agg (keyC (j))] w (RetV w (.agg (natsC (elemL nj))))) := by rw [hnj]; exact fun w => of_any j hj w
    obtain ⟨v24, hv24⟩ : ∃ v, v = (ni + nj) % pF := ⟨_, rfl⟩
    have bv24 : v24 < pF := by rw [hv24]; exact modF_lt _
    have C24 : Hid (∀ w, Calls Try.prog 20 #[.agg (natsC (elemL ni)), .agg (natsC (elemL nj))] w (RetV w (.agg (natsC (elemL v24))))) := by rw [hv24]; exact fun w => Add_any ni nj bni bnj w
    obtain ⟨v26, hv26⟩ : ∃ v, v = subF v24 nj := ⟨_, rfl⟩
    have bv26 : v26 < pF := by rw [hv26]; exact subF_lt _ _
    have C26 : Hid (∀ w, Calls Try.prog 21 #[.agg (natsC (elemL v24)), .agg (natsC (elemL nj))] w (RetV w (.agg (natsC (elemL v26))))) := by rw [hv26]; exact fun w => Sub_any v24 nj bv24 bnj w
    have q28 : (v26 == ni) = true := by rw [beq_iff_eq, hv26, hv24]; exact add_subF _ _ bni bnj
    have C28 : Hid (∀ w, Calls Try.prog 26 #[.agg (natsC (elemL v26)), .agg (natsC (elemL ni))] w (RetV w (.bool true))) := fun w => by have h := Equal_any v26 ni bv26 bni w; rwa [q28] at h
    obtain ⟨v31, hv31⟩ : ∃ v, v = subF ni nj := ⟨_, rfl⟩
    have bv31 : v31 < pF := by rw [hv31]; exact subF_lt _ _
    have C31 : Hid (∀ w, Calls Try.prog 21 #[.agg (natsC (elemL ni)), .agg (natsC (elemL nj))] w (RetV w (.agg (natsC (elemL v31))))) := by rw [hv31]; exact fun w => Sub_any ni nj bni bnj w
    obtain ⟨v33, hv33⟩ : ∃ v, v = (v31 + nj) % pF := ⟨_, rfl⟩
    have bv33 : v33 < pF := by rw [hv33]; exact modF_lt _
    have C33 : Hid (∀ w, Calls Try.prog 20 #[.agg (natsC (elemL v31)), .agg (natsC (elemL nj))] w (RetV w (.agg (natsC (elemL v33))))) := by rw [hv33]; exact fun w => Add_any v31 nj bv31 bnj w
    have q35 : (v33 == ni) = true := by rw [beq_iff_eq, hv33, hv31]; exact sub_addF _ _ bni bnj
    have C35 : Hid (∀ w, Calls Try.prog 26 #[.agg (natsC (elemL v33)), .agg (natsC (elemL ni))] w (RetV w (.bool true))) := fun w => by have h := Equal_any v33 ni bv33 bni w; rwa [q35] at h
    obtain ⟨v38, hv38⟩ : ∃ v, v = invF ni := ⟨_, rfl⟩
    have bv38 : v38 < pF := by rw [hv38]; exact invF_lt _
    have C38 : Hid (∀ w, Calls Try.prog 29 #[.agg (natsC (elemL ni))] w (RetV w (.agg (natsC (elemL v38))))) := by rw [hv38]; exact fun w => Invert_any ni bni w
    obtain ⟨v39, hv39⟩ : ∃ v, v = ni * v38 % pF := ⟨_, rfl⟩
    have bv39 : v39 < pF := by rw [hv39]; exact modF_lt _
    have C39 : Hid (∀ w, Calls Try.prog 22 #[.agg (natsC (elemL ni)), .agg (natsC (elemL v38))] w (RetV w (.agg (natsC (elemL v39))))) := by rw [hv39]; exact fun w => Mul_any ni v38 bni bv38 w
    have q41 : (ni == 0) = true := by rw [beq_iff_eq]; exact hx0
    have C41 : Hid (∀ w, Calls Try.prog 15 #[.agg (natsC (elemL ni))] w (RetV w (.bool true))) := fun w => by have h := IsZero_any ni bni w; rwa [q41] at h
    obtain ⟨v43, hv43⟩ : ∃ v, v = 0 := ⟨_, rfl⟩
    have bv43 : v43 < pF := by rw [hv43]; exact (by decide)
    have C43 : Hid (∀ w, Calls Try.prog 14 #[.int .u64 0] w (RetV w (.agg (natsC (elemL v43))))) := by rw [hv43]; exact fun w => Small_any 0 (by decide) w
    obtain ⟨v44, hv44⟩ : ∃ v, v = (ni + v43) % pF := ⟨_, rfl⟩
    have bv44 : v44 < pF := by rw [hv44]; exact modF_lt _
    have C44 : Hid (∀ w, Calls Try.prog 20 #[.agg (natsC (elemL ni)), .agg (natsC (elemL v43))] w (RetV w (.agg (natsC (elemL v44))))) := by rw [hv44]; exact fun w => Add_any ni v43 bni bv43 w
    have q46 : (v44 == ni) = true := by rw [beq_iff_eq, hv44, hv43, Nat.add_zero, Nat.mod_eq_of_lt bni]
    have C46 : Hid (∀ w, Calls Try.prog 26 #[.agg (natsC (elemL v44)), .agg (natsC (elemL ni))] w (RetV w (.bool true))) := fun w => by have h := Equal_any v44 ni bv44 bni w; rwa [q46] at h
    obtain ⟨v49, hv49⟩ : ∃ v, v = 1 := ⟨_, rfl⟩
    have bv49 : v49 < pF := by rw [hv49]; exact (by decide)
    have C49 : Hid (∀ w, Calls Try.prog 14 #[.int .u64 1] w (RetV w (.agg (natsC (elemL v49))))) := by rw [hv49]; exact fun w => Small_any 1 (by decide) w
    obtain ⟨v50, hv50⟩ : ∃ v, v = ni * v49 % pF := ⟨_, rfl⟩
    have bv50 : v50 < pF := by rw [hv50]; exact modF_lt _
    have C50 : Hid (∀ w, Calls Try.prog 22 #[.agg (natsC (elemL ni)), .agg (natsC (elemL v49))] w (RetV w (.agg (natsC (elemL v50))))) := by rw [hv50]; exact fun w => Mul_any ni v49 bni bv49 w
    have q52 : (v50 == ni) = true := by rw [beq_iff_eq, hv50, hv49, Nat.mul_one, Nat.mod_eq_of_lt bni]
    have C52 : Hid (∀ w, Calls Try.prog 26 #[.agg (natsC (elemL v50)), .agg (natsC (elemL ni))] w (RetV w (.bool true))) := fun w => by have h := Equal_any v50 ni bv50 bni w; rwa [q52] at h
    obtain ⟨v56, hv56⟩ : ∃ v, v = ni * v43 % pF := ⟨_, rfl⟩
    have bv56 : v56 < pF := by rw [hv56]; exact modF_lt _
    have C56 : Hid (∀ w, Calls Try.prog 22 #[.agg (natsC (elemL ni)), .agg (natsC (elemL v43))] w (RetV w (.agg (natsC (elemL v56))))) := by rw [hv56]; exact fun w => Mul_any ni v43 bni bv43 w
    have q57 : (v56 == 0) = true := by rw [beq_iff_eq, hv56, hv43, Nat.mul_zero, Nat.zero_mod]
    have C57 : Hid (∀ w, Calls Try.prog 15 #[.agg (natsC (elemL v56))] w (RetV w (.bool true))) := fun w => by have h := IsZero_any v56 bv56 w; rwa [q57] at h
    obtain ⟨v60, hv60⟩ : ∃ v, v = subF ni ni := ⟨_, rfl⟩
    have bv60 : v60 < pF := by rw [hv60]; exact subF_lt _ _
    have C60 : Hid (∀ w, Calls Try.prog 21 #[.agg (natsC (elemL ni)), .agg (natsC (elemL ni))] w (RetV w (.agg (natsC (elemL v60))))) := by rw [hv60]; exact fun w => Sub_any ni ni bni bni w
    have q61 : (v60 == 0) = true := by rw [beq_iff_eq, hv60]; exact sub_self _ bni
    have C61 : Hid (∀ w, Calls Try.prog 15 #[.agg (natsC (elemL v60))] w (RetV w (.bool true))) := fun w => by have h := IsZero_any v60 bv60 w; rwa [q61] at h
    have q64 : (v39 == v49) = false := by rw [beq_eq_false_iff_ne, hv39, hv38, hv49, hx0, Nat.zero_mul]; decide
    have C64 : Hid (∀ w, Calls Try.prog 26 #[.agg (natsC (elemL v39)), .agg (natsC (elemL v49))] w (RetV w (.bool false))) := fun w => by have h := Equal_any v39 v49 bv39 bv49 w; rwa [q64] at h
    have q66 : (v39 == 0) = true := by rw [beq_iff_eq, hv39, hx0, Nat.zero_mul, Nat.zero_mod]
    have C66 : Hid (∀ w, Calls Try.prog 15 #[.agg (natsC (elemL v39))] w (RetV w (.bool true))) := fun w => by have h := IsZero_any v39 bv39 w; rwa [q66] at h
    clear hni hnj bni bnj hi hj hx0 hv24 bv24 hv26 bv26 q28 hv31 bv31 hv33 bv33 q35 hv38 bv38 hv39 bv39 q41 hv43 bv43 hv44 bv44 q46 hv49 bv49 hv50 bv50 q52 hv56 bv56 q57 hv60 bv60 q61 q64 q66
    have E0 := Lib.hid (Env.start w)
    go_enter Try.func7, Try.ntmps7
    go_wp2_with (first
      | ((with_reducible refine wpE_box (o := ⟨some 2, _, _, _, _, _⟩) rfl 23 (.tmp 0) rfl (keyC (i)) (by with_unfolding_all rfl) E0.out ?_); intro g1 w1 T1; have E1 := Lib.hid T1; clear T1)
      | ((with_reducible refine wpE_box (o := ⟨some 3, _, _, _, _, _⟩) rfl 23 (.tmp 1) rfl (keyC (j)) (by with_unfolding_all rfl) E1.out ?_); intro g2 w2 T2; have E2 := Lib.hid T2; clear T2))
    refine (C17.out _).mono ?_
    rintro e w3 ⟨rfl, b3⟩
    have E3 := Lib.hid (E2.out.call b3)
    clear b3 E2
    go_wp2_with (first
      | (with_reducible refine wpE_load (o := ⟨some 18, _, _, _, _, _⟩) rfl 23 (.tmp 2) rfl 1 g1 23 (keyC (i)) _ (by with_unfolding_all rfl) (by with_unfolding_all rfl) Try.underlying23 rfl (Try.sizeKey _ Li.out) E3.out ?_))
    refine (C19.out _).mono ?_
    rintro e w4 ⟨rfl, b4⟩
    have E4 := Lib.hid (E3.out.call b4)
    clear b4 E3
    go_wp2_with (first
      | ((with_reducible refine wpE_alloc (o := ⟨some 6, _, _, _, _, _⟩) rfl 29 rfl (natsC (zero5)) Try.zero5e E4.out ?_); intro g3 w5 T5; have E5 := Lib.hid T5; clear T5)
      | ((with_reducible refine wpE_store (o := ⟨none, _, _, _, _, _⟩) rfl 29 (.tmp 6) (.tmp 19) rfl 0 g3 29 (natsC (zero5)) (natsC (elemL ni)) (by with_unfolding_all rfl) (by with_unfolding_all rfl) (by with_unfolding_all rfl) (natsC_same zero5_length (elemL_length _)) (sizeN Try.sz5e _ (elemL_length _)) (natsC_one _) E5.out ?_); intro w6 T6; simp only [List.set_cons_zero] at T6; have E6 := Lib.hid T6; clear T6)
      | (with_reducible refine wpE_load (o := ⟨some 20, _, _, _, _, _⟩) rfl 23 (.tmp 3) rfl 1 g2 23 (keyC (j)) _ (by with_unfolding_all rfl) (by with_unfolding_all rfl) Try.underlying23 rfl (Try.sizeKey _ Lj.out) E6.out ?_))
    refine (C21.out _).mono ?_
    rintro e w7 ⟨rfl, b7⟩
    have E7 := Lib.hid (E6.out.call b7)
    clear b7 E6
    go_wp2_with (first
      | ((with_reducible refine wpE_alloc (o := ⟨some 7, _, _, _, _, _⟩) rfl 29 rfl (natsC (zero5)) Try.zero5e E7.out ?_); intro g4 w8 T8; have E8 := Lib.hid T8; clear T8)
      | ((with_reducible refine wpE_store (o := ⟨none, _, _, _, _, _⟩) rfl 29 (.tmp 7) (.tmp 21) rfl 0 g4 29 (natsC (zero5)) (natsC (elemL nj)) (by with_unfolding_all rfl) (by with_unfolding_all rfl) (by with_unfolding_all rfl) (natsC_same zero5_length (elemL_length _)) (sizeN Try.sz5e _ (elemL_length _)) (natsC_one _) E8.out ?_); intro w9 T9; simp only [List.set_cons_zero] at T9; have E9 := Lib.hid T9; clear T9))
    refine region_class _ E9.out.drew (by kernel_rfl) (by kernel_rfl) ?_
    refine qE_load (by rfl) _ (.tmp 6) rfl 1 g3 29 (natsC (elemL ni)) _ rfl rfl Try.underlying29 rfl (sizeN Try.sz5e _ (elemL_length _)) ?_
    simp only [Act.put, List.setIfInBounds_toArray, List.set_cons_zero, List.set_cons_succ]
    refine qE_load (by rfl) _ (.tmp 7) rfl 0 g4 29 (natsC (elemL nj)) _ rfl rfl Try.underlying29 rfl (sizeN Try.sz5e _ (elemL_length _)) ?_
    simp only [Act.put, List.setIfInBounds_toArray, List.set_cons_zero, List.set_cons_succ]
    refine q_call (by rfl) 20 _ (fun W => by go_simp) (fun W hW => hW.calls (C24.out W)) ?_
    simp only [Act.put, List.setIfInBounds_toArray, List.set_cons_zero, List.set_cons_succ]
    refine qE_load (by rfl) _ (.tmp 7) rfl 0 g4 29 (natsC (elemL nj)) _ rfl rfl Try.underlying29 rfl (sizeN Try.sz5e _ (elemL_length _)) ?_
    simp only [Act.put, List.setIfInBounds_toArray, List.set_cons_zero, List.set_cons_succ]
    refine q_call (by rfl) 21 _ (fun W => by go_simp) (fun W hW => hW.calls (C26.out W)) ?_
    simp only [Act.put, List.setIfInBounds_toArray, List.set_cons_zero, List.set_cons_succ]
    refine qE_load (by rfl) _ (.tmp 6) rfl 1 g3 29 (natsC (elemL ni)) _ rfl rfl Try.underlying29 rfl (sizeN Try.sz5e _ (elemL_length _)) ?_
    simp only [Act.put, List.setIfInBounds_toArray, List.set_cons_zero, List.set_cons_succ]
    refine q_call (by rfl) 26 _ (fun W => by go_simp) (fun W hW => hW.calls (C28.out W)) ?_
    simp only [Act.put, List.setIfInBounds_toArray, List.set_cons_zero, List.set_cons_succ]
    refine q_run (by rfl) (v := .bool true) (fun W _ => by go_simp) ?_
    simp only [Act.put, List.setIfInBounds_toArray, List.set_cons_zero, List.set_cons_succ]
    refine wpQuiet_nil ?_
    intro w10 T10
    have E10 := Lib.hid T10
    clear T10 E9
    go_wp2_with fail
    refine region_class _ E10.out.drew (by kernel_rfl) (by kernel_rfl) ?_
    refine qE_load (by rfl) _ (.tmp 6) rfl 1 g3 29 (natsC (elemL ni)) _ rfl rfl Try.underlying29 rfl (sizeN Try.sz5e _ (elemL_length _)) ?_
    simp only [Act.put, List.setIfInBounds_toArray, List.set_cons_zero, List.set_cons_succ]
    refine qE_load (by rfl) _ (.tmp 7) rfl 0 g4 29 (natsC (elemL nj)) _ rfl rfl Try.underlying29 rfl (sizeN Try.sz5e _ (elemL_length _)) ?_
    simp only [Act.put, List.setIfInBounds_toArray, List.set_cons_zero, List.set_cons_succ]
    refine q_call (by rfl) 21 _ (fun W => by go_simp) (fun W hW => hW.calls (C31.out W)) ?_
    simp only [Act.put, List.setIfInBounds_toArray, List.set_cons_zero, List.set_cons_succ]
    refine qE_load (by rfl) _ (.tmp 7) rfl 0 g4 29 (natsC (elemL nj)) _ rfl rfl Try.underlying29 rfl (sizeN Try.sz5e _ (elemL_length _)) ?_
    simp only [Act.put, List.setIfInBounds_toArray, List.set_cons_zero, List.set_cons_succ]
    refine q_call (by rfl) 20 _ (fun W => by go_simp) (fun W hW => hW.calls (C33.out W)) ?_
    simp only [Act.put, List.setIfInBounds_toArray, List.set_cons_zero, List.set_cons_succ]
    refine qE_load (by rfl) _ (.tmp 6) rfl 1 g3 29 (natsC (elemL ni)) _ rfl rfl Try.underlying29 rfl (sizeN Try.sz5e _ (elemL_length _)) ?_
    simp only [Act.put, List.setIfInBounds_toArray, List.set_cons_zero, List.set_cons_succ]
    refine q_call (by rfl) 26 _ (fun W => by go_simp) (fun W hW => hW.calls (C35.out W)) ?_
    simp only [Act.put, List.setIfInBounds_toArray, List.set_cons_zero, List.set_cons_succ]
    refine q_run (by rfl) (v := .bool true) (fun W _ => by go_simp) ?_
    simp only [Act.put, List.setIfInBounds_toArray, List.set_cons_zero, List.set_cons_succ]
    refine wpQuiet_nil ?_
    intro w11 T11
    have E11 := Lib.hid T11
    clear T11 E10
    go_wp2_with fail
    refine region_rows (fin := fun _ => false) E11.out (by kernel_rfl) ?_
    change walkS _ _ _ _ _ _ 6 _ _ _
    have D0 := E11.out.drew
    refine takeE_load (k := 0) (oi := ⟨some 36, _, _, _, _, _⟩) rfl (by kernel_rfl) (by kernel_rfl) (fun _ _ _ _ h => h) _ _ _ _ (by kernel_rfl) (by kernel_rfl) (by rfl) _ (.tmp 6) rfl 1 g3 29 (natsC (elemL ni)) _ rfl rfl Try.underlying29 rfl (sizeN Try.sz5e _ (elemL_length _)) D0 ?_
    simp only [Act.put, List.setIfInBounds_toArray, List.set_cons_zero, List.set_cons_succ]
    refine takeE_load (k := 1) (oi := ⟨some 37, _, _, _, _, _⟩) rfl (by kernel_rfl) (by kernel_rfl) (fun _ _ _ _ h => h) _ _ _ _ (by kernel_rfl) (by kernel_rfl) (by rfl) _ (.tmp 6) rfl 1 g3 29 (natsC (elemL ni)) _ rfl rfl Try.underlying29 rfl (sizeN Try.sz5e _ (elemL_length _)) D0 ?_
    simp only [Act.put, List.setIfInBounds_toArray, List.set_cons_zero, List.set_cons_succ]
    refine walkS_two (i := 2) (j := 4) (oi := ⟨some 38, _, _, _, _, _⟩) (oj := ⟨some 10, _, _, _, _, _⟩) (by kernel_rfl) rfl rfl rfl rfl (fun K hK => ?_) (fun K hK => ?_)
    · go_simp
      refine (C38.out _).mono ?_
      rintro e v1 ⟨rfl, bv1⟩
      have D1 := D0.call bv1
      clear bv1
      refine hK _ _ (.inr D1) ?_
      clear hK K
      try simp only [Act.put, List.setIfInBounds_toArray, List.set_cons_zero, List.set_cons_succ]
      refine walkS_two (i := 3) (j := 4) (oi := ⟨some 39, _, _, _, _, _⟩) (oj := ⟨some 10, _, _, _, _, _⟩) (by kernel_rfl) rfl rfl rfl rfl (fun K hK => ?_) (fun K hK => ?_)
      · go_simp
        refine (C39.out _).mono ?_
        rintro e v2 ⟨rfl, bv2⟩
        have D2 := D1.call bv2
        clear bv2
        refine hK _ _ (.inr D2) ?_
        clear hK K
        try simp only [Act.put, List.setIfInBounds_toArray, List.set_cons_zero, List.set_cons_succ]
        refine walkS_only (i := 4) (o := ⟨some 10, _, _, _, _, _⟩) (by kernel_rfl) rfl rfl fun K hK => ?_
        refine wp_alloc_row 29 rfl (natsC (zero5)) Try.zero5e fun g5 v3 nv3 => hK _ _ (.inr ?_) ?_
        · exact (D2.new nv3).less (List.sublist_cons_self _ _)
        have D3 := D2.new nv3
        clear hK K nv3
        simp only [Act.put, List.setIfInBounds_toArray, List.set_cons_zero, List.set_cons_succ]
        refine walkS_only (i := 5) (o := ⟨none, _, _, _, _, _⟩) (by kernel_rfl) rfl rfl fun K hK => ?_
        refine wp_store_row 29 (.tmp 10) (.tmp 39) rfl g5 29 (natsC (zero5)) (natsC (elemL v39)) rfl rfl (D3.row 0 rfl) (natsC_same zero5_length (elemL_length _)) (sizeN Try.sz5e _ (elemL_length _)) (natsC_one _) ?_
        intro v4 pv4
        have T12 := D3.put 0 rfl pv4
        simp only [List.set_cons_zero] at T12
        refine hK _ _ (.inr (T12.less (List.sublist_cons_self _ _))) (walkS_done (by kernel_rfl) ?_ _)
        clear hK K pv4
        have E12 := Lib.hid T12
        clear T12
        go_wp2_with (first
          | (with_reducible refine wpE_load (o := ⟨some 40, _, _, _, _, _⟩) rfl 29 (.tmp 6) rfl 2 g3 29 (natsC (elemL ni)) _ (by with_unfolding_all rfl) (by with_unfolding_all rfl) Try.underlying29 rfl (sizeN Try.sz5e _ (elemL_length _)) E12.out ?_))
        refine (C41.out _).mono ?_
        rintro e w12 ⟨rfl, b12⟩
        have E13 := Lib.hid (E12.out.call b12)
        clear b12 E12
        go_wp2_with fail
        refine region_class _ E13.out.drew (by kernel_rfl) (by kernel_rfl) ?_
        refine qE_load (by rfl) _ (.tmp 6) rfl 2 g3 29 (natsC (elemL ni)) _ rfl rfl Try.underlying29 rfl (sizeN Try.sz5e _ (elemL_length _)) ?_
        simp only [Act.put, List.setIfInBounds_toArray, List.set_cons_zero, List.set_cons_succ]
        refine q_call (by rfl) 14 _ (fun W => by go_simp) (fun W hW => hW.calls (C43.out W)) ?_
        simp only [Act.put, List.setIfInBounds_toArray, List.set_cons_zero, List.set_cons_succ]
        refine q_call (by rfl) 20 _ (fun W => by go_simp) (fun W hW => hW.calls (C44.out W)) ?_
        simp only [Act.put, List.setIfInBounds_toArray, List.set_cons_zero, List.set_cons_succ]
        refine qE_load (by rfl) _ (.tmp 6) rfl 2 g3 29 (natsC (elemL ni)) _ rfl rfl Try.underlying29 rfl (sizeN Try.sz5e _ (elemL_length _)) ?_
        simp only [Act.put, List.setIfInBounds_toArray, List.set_cons_zero, List.set_cons_succ]
        refine q_call (by rfl) 26 _ (fun W => by go_simp) (fun W hW => hW.calls (C46.out W)) ?_
        simp only [Act.put, List.setIfInBounds_toArray, List.set_cons_zero, List.set_cons_succ]
        refine q_run (by rfl) (v := .bool true) (fun W _ => by go_simp) ?_
        simp only [Act.put, List.setIfInBounds_toArray, List.set_cons_zero, List.set_cons_succ]
        refine qE_load (by rfl) _ (.tmp 6) rfl 2 g3 29 (natsC (elemL ni)) _ rfl rfl Try.underlying29 rfl (sizeN Try.sz5e _ (elemL_length _)) ?_
        simp only [Act.put, List.setIfInBounds_toArray, List.set_cons_zero, List.set_cons_succ]
        refine q_call (by rfl) 14 _ (fun W => by go_simp) (fun W hW => hW.calls (C49.out W)) ?_
        simp only [Act.put, List.setIfInBounds_toArray, List.set_cons_zero, List.set_cons_succ]
        refine q_call (by rfl) 22 _ (fun W => by go_simp) (fun W hW => hW.calls (C50.out W)) ?_
        simp only [Act.put, List.setIfInBounds_toArray, List.set_cons_zero, List.set_cons_succ]
        refine qE_load (by rfl) _ (.tmp 6) rfl 2 g3 29 (natsC (elemL ni)) _ rfl rfl Try.underlying29 rfl (sizeN Try.sz5e _ (elemL_length _)) ?_
        simp only [Act.put, List.setIfInBounds_toArray, List.set_cons_zero, List.set_cons_succ]
        refine q_call (by rfl) 26 _ (fun W => by go_simp) (fun W hW => hW.calls (C52.out W)) ?_
        simp only [Act.put, List.setIfInBounds_toArray, List.set_cons_zero, List.set_cons_succ]
        refine q_run (by rfl) (v := .bool true) (fun W _ => by go_simp) ?_
        simp only [Act.put, List.setIfInBounds_toArray, List.set_cons_zero, List.set_cons_succ]
        refine q_run (by rfl) (v := .bool true) (fun W _ => by go_simp) ?_
        simp only [Act.put, List.setIfInBounds_toArray, List.set_cons_zero, List.set_cons_succ]
        refine wpQuiet_nil ?_
        intro w13 T14
        have E14 := Lib.hid T14
        clear T14 E13
        go_wp2_with fail
        refine region_class _ E14.out.drew (by kernel_rfl) (by kernel_rfl) ?_
        refine qE_load (by rfl) _ (.tmp 6) rfl 2 g3 29 (natsC (elemL ni)) _ rfl rfl Try.underlying29 rfl (sizeN Try.sz5e _ (elemL_length _)) ?_
        simp only [Act.put, List.setIfInBounds_toArray, List.set_cons_zero, List.set_cons_succ]
        refine q_call (by rfl) 14 _ (fun W => by go_simp) (fun W hW => hW.calls (C43.out W)) ?_
        simp only [Act.put, List.setIfInBounds_toArray, List.set_cons_zero, List.set_cons_succ]
        refine q_call (by rfl) 22 _ (fun W => by go_simp) (fun W hW => hW.calls (C56.out W)) ?_
        simp only [Act.put, List.setIfInBounds_toArray, List.set_cons_zero, List.set_cons_succ]
        refine q_call (by rfl) 15 _ (fun W => by go_simp) (fun W hW => hW.calls (C57.out W)) ?_
        simp only [Act.put, List.setIfInBounds_toArray, List.set_cons_zero, List.set_cons_succ]
        refine q_run (by rfl) (v := .bool true) (fun W _ => by go_simp) ?_
        simp only [Act.put, List.setIfInBounds_toArray, List.set_cons_zero, List.set_cons_succ]
        refine wpQuiet_nil ?_
        intro w14 T15
        have E15 := Lib.hid T15
        clear T15 E14
        go_wp2_with (first
          | (with_reducible refine wpE_load (o := ⟨some 58, _, _, _, _, _⟩) rfl 29 (.tmp 6) rfl 2 g3 29 (natsC (elemL ni)) _ (by with_unfolding_all rfl) (by with_unfolding_all rfl) Try.underlying29 rfl (sizeN Try.sz5e _ (elemL_length _)) E15.out ?_)
          | (with_reducible refine wpE_load (o := ⟨some 59, _, _, _, _, _⟩) rfl 29 (.tmp 6) rfl 2 g3 29 (natsC (elemL ni)) _ (by with_unfolding_all rfl) (by with_unfolding_all rfl) Try.underlying29 rfl (sizeN Try.sz5e _ (elemL_length _)) E15.out ?_))
        refine (C60.out _).mono ?_
        rintro e w15 ⟨rfl, b15⟩
        have E16 := Lib.hid (E15.out.call b15)
        clear b15 E15
        go_wp2_with fail
        refine (C61.out _).mono ?_
        rintro e w16 ⟨rfl, b16⟩
        have E17 := Lib.hid (E16.out.call b16)
        clear b16 E16
        go_wp2_with fail
        refine region_class _ E17.out.drew (by kernel_rfl) (by kernel_rfl) ?_
        refine qE_load (by rfl) _ (.tmp 10) rfl 0 g5 29 (natsC (elemL v39)) _ rfl rfl Try.underlying29 rfl (sizeN Try.sz5e _ (elemL_length _)) ?_
        simp only [Act.put, List.setIfInBounds_toArray, List.set_cons_zero, List.set_cons_succ]
        refine q_call (by rfl) 14 _ (fun W => by go_simp) (fun W hW => hW.calls (C49.out W)) ?_
        simp only [Act.put, List.setIfInBounds_toArray, List.set_cons_zero, List.set_cons_succ]
        refine q_call (by rfl) 26 _ (fun W => by go_simp) (fun W hW => hW.calls (C64.out W)) ?_
        simp only [Act.put, List.setIfInBounds_toArray, List.set_cons_zero, List.set_cons_succ]
        refine q_run (by rfl) (v := .bool false) (fun W _ => by go_simp) ?_
        simp only [Act.put, List.setIfInBounds_toArray, List.set_cons_zero, List.set_cons_succ]
        refine wpQuiet_nil ?_
        intro w17 T18
        have E18 := Lib.hid T18
        clear T18 E17
        go_wp2_with (first
          | (with_reducible refine wpE_load (o := ⟨some 65, _, _, _, _, _⟩) rfl 29 (.tmp 10) rfl 0 g5 29 (natsC (elemL v39)) _ (by with_unfolding_all rfl) (by with_unfolding_all rfl) Try.underlying29 rfl (sizeN Try.sz5e _ (elemL_length _)) E18.out ?_))
        refine (C66.out _).mono ?_
        rintro e w18 ⟨rfl, b18⟩
        have E19 := Lib.hid (E18.out.call b18)
        clear b18 E18
        go_wp2_with fail
        go_ret
        exact E19.out.ret _
      · refine wp_alloc_row 29 rfl (natsC (zero5)) Try.zero5e fun g5 v2 nv2 => hK _ _ (.inr ?_) ?_
        · exact (D1.new nv2).less (List.sublist_cons_self _ _)
        have D2 := D1.new nv2
        clear hK K nv2
        simp only [Act.put, List.setIfInBounds_toArray, List.set_cons_zero, List.set_cons_succ]
        refine walkS_only (i := 3) (o := ⟨some 39, _, _, _, _, _⟩) (by kernel_rfl) rfl rfl fun K hK => ?_
        go_simp
        refine (C39.out _).mono ?_
        rintro e v3 ⟨rfl, bv3⟩
        have D3 := D2.call bv3
        clear bv3
        refine hK _ _ (.inr (D3.less (List.sublist_cons_self _ _))) ?_
        clear hK K
        try simp only [Act.put, List.setIfInBounds_toArray, List.set_cons_zero, List.set_cons_succ]
        refine walkS_only (i := 5) (o := ⟨none, _, _, _, _, _⟩) (by kernel_rfl) rfl rfl fun K hK => ?_
        refine wp_store_row 29 (.tmp 10) (.tmp 39) rfl g5 29 (natsC (zero5)) (natsC (elemL v39)) rfl rfl (D3.row 0 rfl) (natsC_same zero5_length (elemL_length _)) (sizeN Try.sz5e _ (elemL_length _)) (natsC_one _) ?_
        intro v4 pv4
        have T12 := D3.put 0 rfl pv4
        simp only [List.set_cons_zero] at T12
        refine hK _ _ (.inr (T12.less (List.sublist_cons_self _ _))) (walkS_done (by kernel_rfl) ?_ _)
        clear hK K pv4
        have E12 := Lib.hid T12
        clear T12
        go_wp2_with (first
          | (with_reducible refine wpE_load (o := ⟨some 40, _, _, _, _, _⟩) rfl 29 (.tmp 6) rfl 2 g3 29 (natsC (elemL ni)) _ (by with_unfolding_all rfl) (by with_unfolding_all rfl) Try.underlying29 rfl (sizeN Try.sz5e _ (elemL_length _)) E12.out ?_))
        refine (C41.out _).mono ?_
        rintro e w12 ⟨rfl, b12⟩
        have E13 := Lib.hid (E12.out.call b12)
        clear b12 E12
        go_wp2_with fail
        refine region_class _ E13.out.drew (by kernel_rfl) (by kernel_rfl) ?_
        refine qE_load (by rfl) _ (.tmp 6) rfl 2 g3 29 (natsC (elemL ni)) _ rfl rfl Try.underlying29 rfl (sizeN Try.sz5e _ (elemL_length _)) ?_
        simp only [Act.put, List.setIfInBounds_toArray, List.set_cons_zero, List.set_cons_succ]
        refine q_call (by rfl) 14 _ (fun W => by go_simp) (fun W hW => hW.calls (C43.out W)) ?_
        simp only [Act.put, List.setIfInBounds_toArray, List.set_cons_zero, List.set_cons_succ]
        refine q_call (by rfl) 20 _ (fun W => by go_simp) (fun W hW => hW.calls (C44.out W)) ?_
        simp only [Act.put, List.setIfInBounds_toArray, List.set_cons_zero, List.set_cons_succ]
        refine qE_load (by rfl) _ (.tmp 6) rfl 2 g3 29 (natsC (elemL ni)) _ rfl rfl Try.underlying29 rfl (sizeN Try.sz5e _ (elemL_length _)) ?_
        simp only [Act.put, List.setIfInBounds_toArray, List.set_cons_zero, List.set_cons_succ]
        refine q_call (by rfl) 26 _ (fun W => by go_simp) (fun W hW => hW.calls (C46.out W)) ?_
        simp only [Act.put, List.setIfInBounds_toArray, List.set_cons_zero, List.set_cons_succ]
        refine q_run (by rfl) (v := .bool true) (fun W _ => by go_simp) ?_
        simp only [Act.put, List.setIfInBounds_toArray, List.set_cons_zero, List.set_cons_succ]
        refine qE_load (by rfl) _ (.tmp 6) rfl 2 g3 29 (natsC (elemL ni)) _ rfl rfl Try.underlying29 rfl (sizeN Try.sz5e _ (elemL_length _)) ?_
        simp only [Act.put, List.setIfInBounds_toArray, List.set_cons_zero, List.set_cons_succ]
        refine q_call (by rfl) 14 _ (fun W => by go_simp) (fun W hW => hW.calls (C49.out W)) ?_
        simp only [Act.put, List.setIfInBounds_toArray, List.set_cons_zero, List.set_cons_succ]
        refine q_call (by rfl) 22 _ (fun W => by go_simp) (fun W hW => hW.calls (C50.out W)) ?_
        simp only [Act.put, List.setIfInBounds_toArray, List.set_cons_zero, List.set_cons_succ]
        refine qE_load (by rfl) _ (.tmp 6) rfl 2 g3 29 (natsC (elemL ni)) _ rfl rfl Try.underlying29 rfl (sizeN Try.sz5e _ (elemL_length _)) ?_
        simp only [Act.put, List.setIfInBounds_toArray, List.set_cons_zero, List.set_cons_succ]
        refine q_call (by rfl) 26 _ (fun W => by go_simp) (fun W hW => hW.calls (C52.out W)) ?_
        simp only [Act.put, List.setIfInBounds_toArray, List.set_cons_zero, List.set_cons_succ]
        refine q_run (by rfl) (v := .bool true) (fun W _ => by go_simp) ?_
        simp only [Act.put, List.setIfInBounds_toArray, List.set_cons_zero, List.set_cons_succ]
        refine q_run (by rfl) (v := .bool true) (fun W _ => by go_simp) ?_
        simp only [Act.put, List.setIfInBounds_toArray, List.set_cons_zero, List.set_cons_succ]
        refine wpQuiet_nil ?_
        intro w13 T14
        have E14 := Lib.hid T14
        clear T14 E13
        go_wp2_with fail
        refine region_class _ E14.out.drew (by kernel_rfl) (by kernel_rfl) ?_
        refine qE_load (by rfl) _ (.tmp 6) rfl 2 g3 29 (natsC (elemL ni)) _ rfl rfl Try.underlying29 rfl (sizeN Try.sz5e _ (elemL_length _)) ?_
        simp only [Act.put, List.setIfInBounds_toArray, List.set_cons_zero, List.set_cons_succ]
        refine q_call (by rfl) 14 _ (fun W => by go_simp) (fun W hW => hW.calls (C43.out W)) ?_
        simp only [Act.put, List.setIfInBounds_toArray, List.set_cons_zero, List.set_cons_succ]
        refine q_call (by rfl) 22 _ (fun W => by go_simp) (fun W hW => hW.calls (C56.out W)) ?_
        simp only [Act.put, List.setIfInBounds_toArray, List.set_cons_zero, List.set_cons_succ]
        refine q_call (by rfl) 15 _ (fun W => by go_simp) (fun W hW => hW.calls (C57.out W)) ?_
        simp only [Act.put, List.setIfInBounds_toArray, List.set_cons_zero, List.set_cons_succ]
        refine q_run (by rfl) (v := .bool true) (fun W _ => by go_simp) ?_
        simp only [Act.put, List.setIfInBounds_toArray, List.set_cons_zero, List.set_cons_succ]
        refine wpQuiet_nil ?_
        intro w14 T15
        have E15 := Lib.hid T15
        clear T15 E14
        go_wp2_with (first
          | (with_reducible refine wpE_load (o := ⟨some 58, _, _, _, _, _⟩) rfl 29 (.tmp 6) rfl 2 g3 29 (natsC (elemL ni)) _ (by with_unfolding_all rfl) (by with_unfolding_all rfl) Try.underlying29 rfl (sizeN Try.sz5e _ (elemL_length _)) E15.out ?_)
          | (with_reducible refine wpE_load (o := ⟨some 59, _, _, _, _, _⟩) rfl 29 (.tmp 6) rfl 2 g3 29 (natsC (elemL ni)) _ (by with_unfolding_all rfl) (by with_unfolding_all rfl) Try.underlying29 rfl (sizeN Try.sz5e _ (elemL_length _)) E15.out ?_))
        refine (C60.out _).mono ?_
        rintro e w15 ⟨rfl, b15⟩
        have E16 := Lib.hid (E15.out.call b15)
        clear b15 E15
        go_wp2_with fail
        refine (C61.out _).mono ?_
        rintro e w16 ⟨rfl, b16⟩
        have E17 := Lib.hid (E16.out.call b16)
        clear b16 E16
        go_wp2_with fail
        refine region_class _ E17.out.drew (by kernel_rfl) (by kernel_rfl) ?_
        refine qE_load (by rfl) _ (.tmp 10) rfl 0 g5 29 (natsC (elemL v39)) _ rfl rfl Try.underlying29 rfl (sizeN Try.sz5e _ (elemL_length _)) ?_
        simp only [Act.put, List.setIfInBounds_toArray, List.set_cons_zero, List.set_cons_succ]
        refine q_call (by rfl) 14 _ (fun W => by go_simp) (fun W hW => hW.calls (C49.out W)) ?_
        simp only [Act.put, List.setIfInBounds_toArray, List.set_cons_zero, List.set_cons_succ]
        refine q_call (by rfl) 26 _ (fun W => by go_simp) (fun W hW => hW.calls (C64.out W)) ?_
        simp only [Act.put, List.setIfInBounds_toArray, List.set_cons_zero, List.set_cons_succ]
        refine q_run (by rfl) (v := .bool false) (fun W _ => by go_simp) ?_
        simp only [Act.put, List.setIfInBounds_toArray, List.set_cons_zero, List.set_cons_succ]
        refine wpQuiet_nil ?_
        intro w17 T18
        have E18 := Lib.hid T18
        clear T18 E17
        go_wp2_with (first
          | (with_reducible refine wpE_load (o := ⟨some 65, _, _, _, _, _⟩) rfl 29 (.tmp 10) rfl 0 g5 29 (natsC (elemL v39)) _ (by with_unfolding_all rfl) (by with_unfolding_all rfl) Try.underlying29 rfl (sizeN Try.sz5e _ (elemL_length _)) E18.out ?_))
        refine (C66.out _).mono ?_
        rintro e w18 ⟨rfl, b18⟩
        have E19 := Lib.hid (E18.out.call b18)
        clear b18 E18
        go_wp2_with fail
        go_ret
        exact E19.out.ret _
    · refine wp_alloc_row 29 rfl (natsC (zero5)) Try.zero5e fun g5 v1 nv1 => hK _ _ (.inr ?_) ?_
      · exact (D0.new nv1).less (List.sublist_cons_self _ _)
      have D1 := D0.new nv1
      clear hK K nv1
      simp only [Act.put, List.setIfInBounds_toArray, List.set_cons_zero, List.set_cons_succ]
      refine walkS_only (i := 2) (o := ⟨some 38, _, _, _, _, _⟩) (by kernel_rfl) rfl rfl fun K hK => ?_
      go_simp
      refine (C38.out _).mono ?_
      rintro e v2 ⟨rfl, bv2⟩
      have D2 := D1.call bv2
      clear bv2
      refine hK _ _ (.inr (D2.less (List.sublist_cons_self _ _))) ?_
      clear hK K
      try simp only [Act.put, List.setIfInBounds_toArray, List.set_cons_zero, List.set_cons_succ]
      refine walkS_only (i := 3) (o := ⟨some 39, _, _, _, _, _⟩) (by kernel_rfl) rfl rfl fun K hK => ?_
      go_simp
      refine (C39.out _).mono ?_
      rintro e v3 ⟨rfl, bv3⟩
      have D3 := D2.call bv3
      clear bv3
      refine hK _ _ (.inr (D3.less (List.sublist_cons_self _ _))) ?_
      clear hK K
      try simp only [Act.put, List.setIfInBounds_toArray, List.set_cons_zero, List.set_cons_succ]
      refine walkS_only (i := 5) (o := ⟨none, _, _, _, _, _⟩) (by kernel_rfl) rfl rfl fun K hK => ?_
      refine wp_store_row 29 (.tmp 10) (.tmp 39) rfl g5 29 (natsC (zero5)) (natsC (elemL v39)) rfl rfl (D3.row 0 rfl) (natsC_same zero5_length (elemL_length _)) (sizeN Try.sz5e _ (elemL_length _)) (natsC_one _) ?_
      intro v4 pv4
      have T12 := D3.put 0 rfl pv4
      simp only [List.set_cons_zero] at T12
      refine hK _ _ (.inr (T12.less (List.sublist_cons_self _ _))) (walkS_done (by kernel_rfl) ?_ _)
      clear hK K pv4
      have E12 := Lib.hid T12
      clear T12
      go_wp2_with (first
        | (with_reducible refine wpE_load (o := ⟨some 40, _, _, _, _, _⟩) rfl 29 (.tmp 6) rfl 2 g3 29 (natsC (elemL ni)) _ (by with_unfolding_all rfl) (by with_unfolding_all rfl) Try.underlying29 rfl (sizeN Try.sz5e _ (elemL_length _)) E12.out ?_))
      refine (C41.out _).mono ?_
      rintro e w12 ⟨rfl, b12⟩
      have E13 := Lib.hid (E12.out.call b12)
      clear b12 E12
      go_wp2_with fail
      refine region_class _ E13.out.drew (by kernel_rfl) (by kernel_rfl) ?_
      refine qE_load (by rfl) _ (.tmp 6) rfl 2 g3 29 (natsC (elemL ni)) _ rfl rfl Try.underlying29 rfl (sizeN Try.sz5e _ (elemL_length _)) ?_
      simp only [Act.put, List.setIfInBounds_toArray, List.set_cons_zero, List.set_cons_succ]
      refine q_call (by rfl) 14 _ (fun W => by go_simp) (fun W hW => hW.calls (C43.out W)) ?_
      simp only [Act.put, List.setIfInBounds_toArray, List.set_cons_zero, List.set_cons_succ]
      refine q_call (by rfl) 20 _ (fun W => by go_simp) (fun W hW => hW.calls (C44.out W)) ?_
      simp only [Act.put, List.setIfInBounds_toArray, List.set_cons_zero, List.set_cons_succ]
      refine qE_load (by rfl) _ (.tmp 6) rfl 2 g3 29 (natsC (elemL ni)) _ rfl rfl Try.underlying29 rfl (sizeN Try.sz5e _ (elemL_length _)) ?_
      simp only [Act.put, List.setIfInBounds_toArray, List.set_cons_zero, List.set_cons_succ]
      refine q_call (by rfl) 26 _ (fun W => by go_simp) (fun W hW => hW.calls (C46.out W)) ?_
      simp only [Act.put, List.setIfInBounds_toArray, List.set_cons_zero, List.set_cons_succ]
      refine q_run (by rfl) (v := .bool true) (fun W _ => by go_simp) ?_
      simp only [Act.put, List.setIfInBounds_toArray, List.set_cons_zero, List.set_cons_succ]
      refine qE_load (by rfl) _ (.tmp 6) rfl 2 g3 29 (natsC (elemL ni)) _ rfl rfl Try.underlying29 rfl (sizeN Try.sz5e _ (elemL_length _)) ?_
      simp only [Act.put, List.setIfInBounds_toArray, List.set_cons_zero, List.set_cons_succ]
      refine q_call (by rfl) 14 _ (fun W => by go_simp) (fun W hW => hW.calls (C49.out W)) ?_
      simp only [Act.put, List.setIfInBounds_toArray, List.set_cons_zero, List.set_cons_succ]
      refine q_call (by rfl) 22 _ (fun W => by go_simp) (fun W hW => hW.calls (C50.out W)) ?_
      simp only [Act.put, List.setIfInBounds_toArray, List.set_cons_zero, List.set_cons_succ]
      refine qE_load (by rfl) _ (.tmp 6) rfl 2 g3 29 (natsC (elemL ni)) _ rfl rfl Try.underlying29 rfl (sizeN Try.sz5e _ (elemL_length _)) ?_
      simp only [Act.put, List.setIfInBounds_toArray, List.set_cons_zero, List.set_cons_succ]
      refine q_call (by rfl) 26 _ (fun W => by go_simp) (fun W hW => hW.calls (C52.out W)) ?_
      simp only [Act.put, List.setIfInBounds_toArray, List.set_cons_zero, List.set_cons_succ]
      refine q_run (by rfl) (v := .bool true) (fun W _ => by go_simp) ?_
      simp only [Act.put, List.setIfInBounds_toArray, List.set_cons_zero, List.set_cons_succ]
      refine q_run (by rfl) (v := .bool true) (fun W _ => by go_simp) ?_
      simp only [Act.put, List.setIfInBounds_toArray, List.set_cons_zero, List.set_cons_succ]
      refine wpQuiet_nil ?_
      intro w13 T14
      have E14 := Lib.hid T14
      clear T14 E13
      go_wp2_with fail
      refine region_class _ E14.out.drew (by kernel_rfl) (by kernel_rfl) ?_
      refine qE_load (by rfl) _ (.tmp 6) rfl 2 g3 29 (natsC (elemL ni)) _ rfl rfl Try.underlying29 rfl (sizeN Try.sz5e _ (elemL_length _)) ?_
      simp only [Act.put, List.setIfInBounds_toArray, List.set_cons_zero, List.set_cons_succ]
      refine q_call (by rfl) 14 _ (fun W => by go_simp) (fun W hW => hW.calls (C43.out W)) ?_
      simp only [Act.put, List.setIfInBounds_toArray, List.set_cons_zero, List.set_cons_succ]
      refine q_call (by rfl) 22 _ (fun W => by go_simp) (fun W hW => hW.calls (C56.out W)) ?_
      simp only [Act.put, List.setIfInBounds_toArray, List.set_cons_zero, List.set_cons_succ]
      refine q_call (by rfl) 15 _ (fun W => by go_simp) (fun W hW => hW.calls (C57.out W)) ?_
      simp only [Act.put, List.setIfInBounds_toArray, List.set_cons_zero, List.set_cons_succ]
      refine q_run (by rfl) (v := .bool true) (fun W _ => by go_simp) ?_
      simp only [Act.put, List.setIfInBounds_toArray, List.set_cons_zero, List.set_cons_succ]
      refine wpQuiet_nil ?_
      intro w14 T15
      have E15 := Lib.hid T15
      clear T15 E14
      go_wp2_with (first
        | (with_reducible refine wpE_load (o := ⟨some 58, _, _, _, _, _⟩) rfl 29 (.tmp 6) rfl 2 g3 29 (natsC (elemL ni)) _ (by with_unfolding_all rfl) (by with_unfolding_all rfl) Try.underlying29 rfl (sizeN Try.sz5e _ (elemL_length _)) E15.out ?_)
        | (with_reducible refine wpE_load (o := ⟨some 59, _, _, _, _, _⟩) rfl 29 (.tmp 6) rfl 2 g3 29 (natsC (elemL ni)) _ (by with_unfolding_all rfl) (by with_unfolding_all rfl) Try.underlying29 rfl (sizeN Try.sz5e _ (elemL_length _)) E15.out ?_))
      refine (C60.out _).mono ?_
      rintro e w15 ⟨rfl, b15⟩
      have E16 := Lib.hid (E15.out.call b15)
      clear b15 E15
      go_wp2_with fail
      refine (C61.out _).mono ?_
      rintro e w16 ⟨rfl, b16⟩
      have E17 := Lib.hid (E16.out.call b16)
      clear b16 E16
      go_wp2_with fail
      refine region_class _ E17.out.drew (by kernel_rfl) (by kernel_rfl) ?_
      refine qE_load (by rfl) _ (.tmp 10) rfl 0 g5 29 (natsC (elemL v39)) _ rfl rfl Try.underlying29 rfl (sizeN Try.sz5e _ (elemL_length _)) ?_
      simp only [Act.put, List.setIfInBounds_toArray, List.set_cons_zero, List.set_cons_succ]
      refine q_call (by rfl) 14 _ (fun W => by go_simp) (fun W hW => hW.calls (C49.out W)) ?_
      simp only [Act.put, List.setIfInBounds_toArray, List.set_cons_zero, List.set_cons_succ]
      refine q_call (by rfl) 26 _ (fun W => by go_simp) (fun W hW => hW.calls (C64.out W)) ?_
      simp only [Act.put, List.setIfInBounds_toArray, List.set_cons_zero, List.set_cons_succ]
      refine q_run (by rfl) (v := .bool false) (fun W _ => by go_simp) ?_
      simp only [Act.put, List.setIfInBounds_toArray, List.set_cons_zero, List.set_cons_succ]
      refine wpQuiet_nil ?_
      intro w17 T18
      have E18 := Lib.hid T18
      clear T18 E17
      go_wp2_with (first
        | (with_reducible refine wpE_load (o := ⟨some 65, _, _, _, _, _⟩) rfl 29 (.tmp 10) rfl 0 g5 29 (natsC (elemL v39)) _ (by with_unfolding_all rfl) (by with_unfolding_all rfl) Try.underlying29 rfl (sizeN Try.sz5e _ (elemL_length _)) E18.out ?_))
      refine (C66.out _).mono ?_
      rintro e w18 ⟨rfl, b18⟩
      have E19 := Lib.hid (E18.out.call b18)
      clear b18 E18
      go_wp2_with fail
      go_ret
      exact E19.out.ret _
  · have C17 : Hid (∀ w, Calls Try.prog 11 #[] w (RetV w (.bool true))) := fun w => awake_any w
    have C19 : Hid (∀ w, Calls Try.prog 19 #[.agg (keyC (i))] w (RetV w (.agg (natsC (elemL ni))))) := by rw [hni]; exact fun w => of_any i hi w
    have C21 : Hid (∀ w, Calls Try.prog 19 #[.agg (keyC (j))] w (RetV w (.agg (natsC (elemL nj))))) := by rw [hnj]; exact fun w => of_any j hj w
    obtain ⟨v24, hv24⟩ : ∃ v, v = (ni + nj) % pF := ⟨_, rfl⟩
    have bv24 : v24 < pF := by rw [hv24]; exact modF_lt _
    have C24 : Hid (∀ w, Calls Try.prog 20 #[.agg (natsC (elemL ni)), .agg (natsC (elemL nj))] w (RetV w (.agg (natsC (elemL v24))))) := by rw [hv24]; exact fun w => Add_any ni nj bni bnj w
    obtain ⟨v26, hv26⟩ : ∃ v, v = subF v24 nj := ⟨_, rfl⟩
    have bv26 : v26 < pF := by rw [hv26]; exact subF_lt _ _
    have C26 : Hid (∀ w, Calls Try.prog 21 #[.agg (natsC (elemL v24)), .agg (natsC (elemL nj))] w (RetV w (.agg (natsC (elemL v26))))) := by rw [hv26]; exact fun w => Sub_any v24 nj bv24 bnj w
    have q28 : (v26 == ni) = true := by rw [beq_iff_eq, hv26, hv24]; exact add_subF _ _ bni bnj
    have C28 : Hid (∀ w, Calls Try.prog 26 #[.agg (natsC (elemL v26)), .agg (natsC (elemL ni))] w (RetV w (.bool true))) := fun w => by have h := Equal_any v26 ni bv26 bni w; rwa [q28] at h
    obtain ⟨v31, hv31⟩ : ∃ v, v = subF ni nj := ⟨_, rfl⟩
    have bv31 : v31 < pF := by rw [hv31]; exact subF_lt _ _
    have C31 : Hid (∀ w, Calls Try.prog 21 #[.agg (natsC (elemL ni)), .agg (natsC (elemL nj))] w (RetV w (.agg (natsC (elemL v31))))) := by rw [hv31]; exact fun w => Sub_any ni nj bni bnj w
    obtain ⟨v33, hv33⟩ : ∃ v, v = (v31 + nj) % pF := ⟨_, rfl⟩
    have bv33 : v33 < pF := by rw [hv33]; exact modF_lt _
    have C33 : Hid (∀ w, Calls Try.prog 20 #[.agg (natsC (elemL v31)), .agg (natsC (elemL nj))] w (RetV w (.agg (natsC (elemL v33))))) := by rw [hv33]; exact fun w => Add_any v31 nj bv31 bnj w
    have q35 : (v33 == ni) = true := by rw [beq_iff_eq, hv33, hv31]; exact sub_addF _ _ bni bnj
    have C35 : Hid (∀ w, Calls Try.prog 26 #[.agg (natsC (elemL v33)), .agg (natsC (elemL ni))] w (RetV w (.bool true))) := fun w => by have h := Equal_any v33 ni bv33 bni w; rwa [q35] at h
    obtain ⟨v38, hv38⟩ : ∃ v, v = invF ni := ⟨_, rfl⟩
    have bv38 : v38 < pF := by rw [hv38]; exact invF_lt _
    have C38 : Hid (∀ w, Calls Try.prog 29 #[.agg (natsC (elemL ni))] w (RetV w (.agg (natsC (elemL v38))))) := by rw [hv38]; exact fun w => Invert_any ni bni w
    obtain ⟨v39, hv39⟩ : ∃ v, v = ni * v38 % pF := ⟨_, rfl⟩
    have bv39 : v39 < pF := by rw [hv39]; exact modF_lt _
    have C39 : Hid (∀ w, Calls Try.prog 22 #[.agg (natsC (elemL ni)), .agg (natsC (elemL v38))] w (RetV w (.agg (natsC (elemL v39))))) := by rw [hv39]; exact fun w => Mul_any ni v38 bni bv38 w
    have q41 : (ni == 0) = false := by rw [beq_eq_false_iff_ne]; exact hx0
    have C41 : Hid (∀ w, Calls Try.prog 15 #[.agg (natsC (elemL ni))] w (RetV w (.bool false))) := fun w => by have h := IsZero_any ni bni w; rwa [q41] at h
    obtain ⟨v43, hv43⟩ : ∃ v, v = 0 := ⟨_, rfl⟩
    have bv43 : v43 < pF := by rw [hv43]; exact (by decide)
    have C43 : Hid (∀ w, Calls Try.prog 14 #[.int .u64 0] w (RetV w (.agg (natsC (elemL v43))))) := by rw [hv43]; exact fun w => Small_any 0 (by decide) w
    obtain ⟨v44, hv44⟩ : ∃ v, v = (ni + v43) % pF := ⟨_, rfl⟩
    have bv44 : v44 < pF := by rw [hv44]; exact modF_lt _
    have C44 : Hid (∀ w, Calls Try.prog 20 #[.agg (natsC (elemL ni)), .agg (natsC (elemL v43))] w (RetV w (.agg (natsC (elemL v44))))) := by rw [hv44]; exact fun w => Add_any ni v43 bni bv43 w
    have q46 : (v44 == ni) = true := by rw [beq_iff_eq, hv44, hv43, Nat.add_zero, Nat.mod_eq_of_lt bni]
    have C46 : Hid (∀ w, Calls Try.prog 26 #[.agg (natsC (elemL v44)), .agg (natsC (elemL ni))] w (RetV w (.bool true))) := fun w => by have h := Equal_any v44 ni bv44 bni w; rwa [q46] at h
    obtain ⟨v49, hv49⟩ : ∃ v, v = 1 := ⟨_, rfl⟩
    have bv49 : v49 < pF := by rw [hv49]; exact (by decide)
    have C49 : Hid (∀ w, Calls Try.prog 14 #[.int .u64 1] w (RetV w (.agg (natsC (elemL v49))))) := by rw [hv49]; exact fun w => Small_any 1 (by decide) w
    obtain ⟨v50, hv50⟩ : ∃ v, v = ni * v49 % pF := ⟨_, rfl⟩
    have bv50 : v50 < pF := by rw [hv50]; exact modF_lt _
    have C50 : Hid (∀ w, Calls Try.prog 22 #[.agg (natsC (elemL ni)), .agg (natsC (elemL v49))] w (RetV w (.agg (natsC (elemL v50))))) := by rw [hv50]; exact fun w => Mul_any ni v49 bni bv49 w
    have q52 : (v50 == ni) = true := by rw [beq_iff_eq, hv50, hv49, Nat.mul_one, Nat.mod_eq_of_lt bni]
    have C52 : Hid (∀ w, Calls Try.prog 26 #[.agg (natsC (elemL v50)), .agg (natsC (elemL ni))] w (RetV w (.bool true))) := fun w => by have h := Equal_any v50 ni bv50 bni w; rwa [q52] at h
    obtain ⟨v56, hv56⟩ : ∃ v, v = ni * v43 % pF := ⟨_, rfl⟩
    have bv56 : v56 < pF := by rw [hv56]; exact modF_lt _
    have C56 : Hid (∀ w, Calls Try.prog 22 #[.agg (natsC (elemL ni)), .agg (natsC (elemL v43))] w (RetV w (.agg (natsC (elemL v56))))) := by rw [hv56]; exact fun w => Mul_any ni v43 bni bv43 w
    have q57 : (v56 == 0) = true := by rw [beq_iff_eq, hv56, hv43, Nat.mul_zero, Nat.zero_mod]
    have C57 : Hid (∀ w, Calls Try.prog 15 #[.agg (natsC (elemL v56))] w (RetV w (.bool true))) := fun w => by have h := IsZero_any v56 bv56 w; rwa [q57] at h
    obtain ⟨v60, hv60⟩ : ∃ v, v = subF ni ni := ⟨_, rfl⟩
    have bv60 : v60 < pF := by rw [hv60]; exact subF_lt _ _
    have C60 : Hid (∀ w, Calls Try.prog 21 #[.agg (natsC (elemL ni)), .agg (natsC (elemL ni))] w (RetV w (.agg (natsC (elemL v60))))) := by rw [hv60]; exact fun w => Sub_any ni ni bni bni w
    have q61 : (v60 == 0) = true := by rw [beq_iff_eq, hv60]; exact sub_self _ bni
    have C61 : Hid (∀ w, Calls Try.prog 15 #[.agg (natsC (elemL v60))] w (RetV w (.bool true))) := fun w => by have h := IsZero_any v60 bv60 w; rwa [q61] at h
    have q64 : (v39 == v49) = true := by rw [beq_iff_eq, hv39, hv38, hv49]; exact inv_mul _ bni hx0
    have C64 : Hid (∀ w, Calls Try.prog 26 #[.agg (natsC (elemL v39)), .agg (natsC (elemL v49))] w (RetV w (.bool true))) := fun w => by have h := Equal_any v39 v49 bv39 bv49 w; rwa [q64] at h
    have q66 : (v39 == 0) = false := by rw [beq_eq_false_iff_ne, hv39, hv38, inv_mul _ bni hx0]; decide
    have C66 : Hid (∀ w, Calls Try.prog 15 #[.agg (natsC (elemL v39))] w (RetV w (.bool false))) := fun w => by have h := IsZero_any v39 bv39 w; rwa [q66] at h
    clear hni hnj bni bnj hi hj hx0 hv24 bv24 hv26 bv26 q28 hv31 bv31 hv33 bv33 q35 hv38 bv38 hv39 bv39 q41 hv43 bv43 hv44 bv44 q46 hv49 bv49 hv50 bv50 q52 hv56 bv56 q57 hv60 bv60 q61 q64 q66
    have E0 := Lib.hid (Env.start w)
    go_enter Try.func7, Try.ntmps7
    go_wp2_with (first
      | ((with_reducible refine wpE_box (o := ⟨some 2, _, _, _, _, _⟩) rfl 23 (.tmp 0) rfl (keyC (i)) (by with_unfolding_all rfl) E0.out ?_); intro g1 w1 T1; have E1 := Lib.hid T1; clear T1)
      | ((with_reducible refine wpE_box (o := ⟨some 3, _, _, _, _, _⟩) rfl 23 (.tmp 1) rfl (keyC (j)) (by with_unfolding_all rfl) E1.out ?_); intro g2 w2 T2; have E2 := Lib.hid T2; clear T2))
    refine (C17.out _).mono ?_
    rintro e w3 ⟨rfl, b3⟩
    have E3 := Lib.hid (E2.out.call b3)
    clear b3 E2
    go_wp2_with (first
      | (with_reducible refine wpE_load (o := ⟨some 18, _, _, _, _, _⟩) rfl 23 (.tmp 2) rfl 1 g1 23 (keyC (i)) _ (by with_unfolding_all rfl) (by with_unfolding_all rfl) Try.underlying23 rfl (Try.sizeKey _ Li.out) E3.out ?_))
    refine (C19.out _).mono ?_
    rintro e w4 ⟨rfl, b4⟩
    have E4 := Lib.hid (E3.out.call b4)
    clear b4 E3
    go_wp2_with (first
      | ((with_reducible refine wpE_alloc (o := ⟨some 6, _, _, _, _, _⟩) rfl 29 rfl (natsC (zero5)) Try.zero5e E4.out ?_); intro g3 w5 T5; have E5 := Lib.hid T5; clear T5)
      | ((with_reducible refine wpE_store (o := ⟨none, _, _, _, _, _⟩) rfl 29 (.tmp 6) (.tmp 19) rfl 0 g3 29 (natsC (zero5)) (natsC (elemL ni)) (by with_unfolding_all rfl) (by with_unfolding_all rfl) (by with_unfolding_all rfl) (natsC_same zero5_length (elemL_length _)) (sizeN Try.sz5e _ (elemL_length _)) (natsC_one _) E5.out ?_); intro w6 T6; simp only [List.set_cons_zero] at T6; have E6 := Lib.hid T6; clear T6)
      | (with_reducible refine wpE_load (o := ⟨some 20, _, _, _, _, _⟩) rfl 23 (.tmp 3) rfl 1 g2 23 (keyC (j)) _ (by with_unfolding_all rfl) (by with_unfolding_all rfl) Try.underlying23 rfl (Try.sizeKey _ Lj.out) E6.out ?_))
    refine (C21.out _).mono ?_
    rintro e w7 ⟨rfl, b7⟩
    have E7 := Lib.hid (E6.out.call b7)
    clear b7 E6
    go_wp2_with (first
      | ((with_reducible refine wpE_alloc (o := ⟨some 7, _, _, _, _, _⟩) rfl 29 rfl (natsC (zero5)) Try.zero5e E7.out ?_); intro g4 w8 T8; have E8 := Lib.hid T8; clear T8)
      | ((with_reducible refine wpE_store (o := ⟨none, _, _, _, _, _⟩) rfl 29 (.tmp 7) (.tmp 21) rfl 0 g4 29 (natsC (zero5)) (natsC (elemL nj)) (by with_unfolding_all rfl) (by with_unfolding_all rfl) (by with_unfolding_all rfl) (natsC_same zero5_length (elemL_length _)) (sizeN Try.sz5e _ (elemL_length _)) (natsC_one _) E8.out ?_); intro w9 T9; simp only [List.set_cons_zero] at T9; have E9 := Lib.hid T9; clear T9))
    refine region_class _ E9.out.drew (by kernel_rfl) (by kernel_rfl) ?_
    refine qE_load (by rfl) _ (.tmp 6) rfl 1 g3 29 (natsC (elemL ni)) _ rfl rfl Try.underlying29 rfl (sizeN Try.sz5e _ (elemL_length _)) ?_
    simp only [Act.put, List.setIfInBounds_toArray, List.set_cons_zero, List.set_cons_succ]
    refine qE_load (by rfl) _ (.tmp 7) rfl 0 g4 29 (natsC (elemL nj)) _ rfl rfl Try.underlying29 rfl (sizeN Try.sz5e _ (elemL_length _)) ?_
    simp only [Act.put, List.setIfInBounds_toArray, List.set_cons_zero, List.set_cons_succ]
    refine q_call (by rfl) 20 _ (fun W => by go_simp) (fun W hW => hW.calls (C24.out W)) ?_
    simp only [Act.put, List.setIfInBounds_toArray, List.set_cons_zero, List.set_cons_succ]
    refine qE_load (by rfl) _ (.tmp 7) rfl 0 g4 29 (natsC (elemL nj)) _ rfl rfl Try.underlying29 rfl (sizeN Try.sz5e _ (elemL_length _)) ?_
    simp only [Act.put, List.setIfInBounds_toArray, List.set_cons_zero, List.set_cons_succ]
    refine q_call (by rfl) 21 _ (fun W => by go_simp) (fun W hW => hW.calls (C26.out W)) ?_
    simp only [Act.put, List.setIfInBounds_toArray, List.set_cons_zero, List.set_cons_succ]
    refine qE_load (by rfl) _ (.tmp 6) rfl 1 g3 29 (natsC (elemL ni)) _ rfl rfl Try.underlying29 rfl (sizeN Try.sz5e _ (elemL_length _)) ?_
    simp only [Act.put, List.setIfInBounds_toArray, List.set_cons_zero, List.set_cons_succ]
    refine q_call (by rfl) 26 _ (fun W => by go_simp) (fun W hW => hW.calls (C28.out W)) ?_
    simp only [Act.put, List.setIfInBounds_toArray, List.set_cons_zero, List.set_cons_succ]
    refine q_run (by rfl) (v := .bool true) (fun W _ => by go_simp) ?_
    simp only [Act.put, List.setIfInBounds_toArray, List.set_cons_zero, List.set_cons_succ]
    refine wpQuiet_nil ?_
    intro w10 T10
    have E10 := Lib.hid T10
    clear T10 E9
    go_wp2_with fail
    refine region_class _ E10.out.drew (by kernel_rfl) (by kernel_rfl) ?_
    refine qE_load (by rfl) _ (.tmp 6) rfl 1 g3 29 (natsC (elemL ni)) _ rfl rfl Try.underlying29 rfl (sizeN Try.sz5e _ (elemL_length _)) ?_
    simp only [Act.put, List.setIfInBounds_toArray, List.set_cons_zero, List.set_cons_succ]
    refine qE_load (by rfl) _ (.tmp 7) rfl 0 g4 29 (natsC (elemL nj)) _ rfl rfl Try.underlying29 rfl (sizeN Try.sz5e _ (elemL_length _)) ?_
    simp only [Act.put, List.setIfInBounds_toArray, List.set_cons_zero, List.set_cons_succ]
    refine q_call (by rfl) 21 _ (fun W => by go_simp) (fun W hW => hW.calls (C31.out W)) ?_
    simp only [Act.put, List.setIfInBounds_toArray, List.set_cons_zero, List.set_cons_succ]
    refine qE_load (by rfl) _ (.tmp 7) rfl 0 g4 29 (natsC (elemL nj)) _ rfl rfl Try.underlying29 rfl (sizeN Try.sz5e _ (elemL_length _)) ?_
    simp only [Act.put, List.setIfInBounds_toArray, List.set_cons_zero, List.set_cons_succ]
    refine q_call (by rfl) 20 _ (fun W => by go_simp) (fun W hW => hW.calls (C33.out W)) ?_
    simp only [Act.put, List.setIfInBounds_toArray, List.set_cons_zero, List.set_cons_succ]
    refine qE_load (by rfl) _ (.tmp 6) rfl 1 g3 29 (natsC (elemL ni)) _ rfl rfl Try.underlying29 rfl (sizeN Try.sz5e _ (elemL_length _)) ?_
    simp only [Act.put, List.setIfInBounds_toArray, List.set_cons_zero, List.set_cons_succ]
    refine q_call (by rfl) 26 _ (fun W => by go_simp) (fun W hW => hW.calls (C35.out W)) ?_
    simp only [Act.put, List.setIfInBounds_toArray, List.set_cons_zero, List.set_cons_succ]
    refine q_run (by rfl) (v := .bool true) (fun W _ => by go_simp) ?_
    simp only [Act.put, List.setIfInBounds_toArray, List.set_cons_zero, List.set_cons_succ]
    refine wpQuiet_nil ?_
    intro w11 T11
    have E11 := Lib.hid T11
    clear T11 E10
    go_wp2_with fail
    refine region_rows (fin := fun _ => false) E11.out (by kernel_rfl) ?_
    change walkS _ _ _ _ _ _ 6 _ _ _
    have D0 := E11.out.drew
    refine takeE_load (k := 0) (oi := ⟨some 36, _, _, _, _, _⟩) rfl (by kernel_rfl) (by kernel_rfl) (fun _ _ _ _ h => h) _ _ _ _ (by kernel_rfl) (by kernel_rfl) (by rfl) _ (.tmp 6) rfl 1 g3 29 (natsC (elemL ni)) _ rfl rfl Try.underlying29 rfl (sizeN Try.sz5e _ (elemL_length _)) D0 ?_
    simp only [Act.put, List.setIfInBounds_toArray, List.set_cons_zero, List.set_cons_succ]
    refine takeE_load (k := 1) (oi := ⟨some 37, _, _, _, _, _⟩) rfl (by kernel_rfl) (by kernel_rfl) (fun _ _ _ _ h => h) _ _ _ _ (by kernel_rfl) (by kernel_rfl) (by rfl) _ (.tmp 6) rfl 1 g3 29 (natsC (elemL ni)) _ rfl rfl Try.underlying29 rfl (sizeN Try.sz5e _ (elemL_length _)) D0 ?_
    simp only [Act.put, List.setIfInBounds_toArray, List.set_cons_zero, List.set_cons_succ]
    refine walkS_two (i := 2) (j := 4) (oi := ⟨some 38, _, _, _, _, _⟩) (oj := ⟨some 10, _, _, _, _, _⟩) (by kernel_rfl) rfl rfl rfl rfl (fun K hK => ?_) (fun K hK => ?_)
    · go_simp
      refine (C38.out _).mono ?_
      rintro e v1 ⟨rfl, bv1⟩
      have D1 := D0.call bv1
      clear bv1
      refine hK _ _ (.inr D1) ?_
      clear hK K
      try simp only [Act.put, List.setIfInBounds_toArray, List.set_cons_zero, List.set_cons_succ]
      refine walkS_two (i := 3) (j := 4) (oi := ⟨some 39, _, _, _, _, _⟩) (oj := ⟨some 10, _, _, _, _, _⟩) (by kernel_rfl) rfl rfl rfl rfl (fun K hK => ?_) (fun K hK => ?_)
      · go_simp
        refine (C39.out _).mono ?_
        rintro e v2 ⟨rfl, bv2⟩
        have D2 := D1.call bv2
        clear bv2
        refine hK _ _ (.inr D2) ?_
        clear hK K
        try simp only [Act.put, List.setIfInBounds_toArray, List.set_cons_zero, List.set_cons_succ]
        refine walkS_only (i := 4) (o := ⟨some 10, _, _, _, _, _⟩) (by kernel_rfl) rfl rfl fun K hK => ?_
        refine wp_alloc_row 29 rfl (natsC (zero5)) Try.zero5e fun g5 v3 nv3 => hK _ _ (.inr ?_) ?_
        · exact (D2.new nv3).less (List.sublist_cons_self _ _)
        have D3 := D2.new nv3
        clear hK K nv3
        simp only [Act.put, List.setIfInBounds_toArray, List.set_cons_zero, List.set_cons_succ]
        refine walkS_only (i := 5) (o := ⟨none, _, _, _, _, _⟩) (by kernel_rfl) rfl rfl fun K hK => ?_
        refine wp_store_row 29 (.tmp 10) (.tmp 39) rfl g5 29 (natsC (zero5)) (natsC (elemL v39)) rfl rfl (D3.row 0 rfl) (natsC_same zero5_length (elemL_length _)) (sizeN Try.sz5e _ (elemL_length _)) (natsC_one _) ?_
        intro v4 pv4
        have T12 := D3.put 0 rfl pv4
        simp only [List.set_cons_zero] at T12
        refine hK _ _ (.inr (T12.less (List.sublist_cons_self _ _))) (walkS_done (by kernel_rfl) ?_ _)
        clear hK K pv4
        have E12 := Lib.hid T12
        clear T12
        go_wp2_with (first
          | (with_reducible refine wpE_load (o := ⟨some 40, _, _, _, _, _⟩) rfl 29 (.tmp 6) rfl 2 g3 29 (natsC (elemL ni)) _ (by with_unfolding_all rfl) (by with_unfolding_all rfl) Try.underlying29 rfl (sizeN Try.sz5e _ (elemL_length _)) E12.out ?_))
        refine (C41.out _).mono ?_
        rintro e w12 ⟨rfl, b12⟩
        have E13 := Lib.hid (E12.out.call b12)
        clear b12 E12
        go_wp2_with fail
        refine region_class _ E13.out.drew (by kernel_rfl) (by kernel_rfl) ?_
        refine qE_load (by rfl) _ (.tmp 6) rfl 2 g3 29 (natsC (elemL ni)) _ rfl rfl Try.underlying29 rfl (sizeN Try.sz5e _ (elemL_length _)) ?_
        simp only [Act.put, List.setIfInBounds_toArray, List.set_cons_zero, List.set_cons_succ]
        refine q_call (by rfl) 14 _ (fun W => by go_simp) (fun W hW => hW.calls (C43.out W)) ?_
        simp only [Act.put, List.setIfInBounds_toArray, List.set_cons_zero, List.set_cons_succ]
        refine q_call (by rfl) 20 _ (fun W => by go_simp) (fun W hW => hW.calls (C44.out W)) ?_
        simp only [Act.put, List.setIfInBounds_toArray, List.set_cons_zero, List.set_cons_succ]
        refine qE_load (by rfl) _ (.tmp 6) rfl 2 g3 29 (natsC (elemL ni)) _ rfl rfl Try.underlying29 rfl (sizeN Try.sz5e _ (elemL_length _)) ?_
        simp only [Act.put, List.setIfInBounds_toArray, List.set_cons_zero, List.set_cons_succ]
        refine q_call (by rfl) 26 _ (fun W => by go_simp) (fun W hW => hW.calls (C46.out W)) ?_
        simp only [Act.put, List.setIfInBounds_toArray, List.set_cons_zero, List.set_cons_succ]
        refine q_run (by rfl) (v := .bool true) (fun W _ => by go_simp) ?_
        simp only [Act.put, List.setIfInBounds_toArray, List.set_cons_zero, List.set_cons_succ]
        refine qE_load (by rfl) _ (.tmp 6) rfl 2 g3 29 (natsC (elemL ni)) _ rfl rfl Try.underlying29 rfl (sizeN Try.sz5e _ (elemL_length _)) ?_
        simp only [Act.put, List.setIfInBounds_toArray, List.set_cons_zero, List.set_cons_succ]
        refine q_call (by rfl) 14 _ (fun W => by go_simp) (fun W hW => hW.calls (C49.out W)) ?_
        simp only [Act.put, List.setIfInBounds_toArray, List.set_cons_zero, List.set_cons_succ]
        refine q_call (by rfl) 22 _ (fun W => by go_simp) (fun W hW => hW.calls (C50.out W)) ?_
        simp only [Act.put, List.setIfInBounds_toArray, List.set_cons_zero, List.set_cons_succ]
        refine qE_load (by rfl) _ (.tmp 6) rfl 2 g3 29 (natsC (elemL ni)) _ rfl rfl Try.underlying29 rfl (sizeN Try.sz5e _ (elemL_length _)) ?_
        simp only [Act.put, List.setIfInBounds_toArray, List.set_cons_zero, List.set_cons_succ]
        refine q_call (by rfl) 26 _ (fun W => by go_simp) (fun W hW => hW.calls (C52.out W)) ?_
        simp only [Act.put, List.setIfInBounds_toArray, List.set_cons_zero, List.set_cons_succ]
        refine q_run (by rfl) (v := .bool true) (fun W _ => by go_simp) ?_
        simp only [Act.put, List.setIfInBounds_toArray, List.set_cons_zero, List.set_cons_succ]
        refine q_run (by rfl) (v := .bool true) (fun W _ => by go_simp) ?_
        simp only [Act.put, List.setIfInBounds_toArray, List.set_cons_zero, List.set_cons_succ]
        refine wpQuiet_nil ?_
        intro w13 T14
        have E14 := Lib.hid T14
        clear T14 E13
        go_wp2_with fail
        refine region_class _ E14.out.drew (by kernel_rfl) (by kernel_rfl) ?_
        refine qE_load (by rfl) _ (.tmp 6) rfl 2 g3 29 (natsC (elemL ni)) _ rfl rfl Try.underlying29 rfl (sizeN Try.sz5e _ (elemL_length _)) ?_
        simp only [Act.put, List.setIfInBounds_toArray, List.set_cons_zero, List.set_cons_succ]
        refine q_call (by rfl) 14 _ (fun W => by go_simp) (fun W hW => hW.calls (C43.out W)) ?_
        simp only [Act.put, List.setIfInBounds_toArray, List.set_cons_zero, List.set_cons_succ]
        refine q_call (by rfl) 22 _ (fun W => by go_simp) (fun W hW => hW.calls (C56.out W)) ?_
        simp only [Act.put, List.setIfInBounds_toArray, List.set_cons_zero, List.set_cons_succ]
        refine q_call (by rfl) 15 _ (fun W => by go_simp) (fun W hW => hW.calls (C57.out W)) ?_
        simp only [Act.put, List.setIfInBounds_toArray, List.set_cons_zero, List.set_cons_succ]
        refine q_run (by rfl) (v := .bool true) (fun W _ => by go_simp) ?_
        simp only [Act.put, List.setIfInBounds_toArray, List.set_cons_zero, List.set_cons_succ]
        refine wpQuiet_nil ?_
        intro w14 T15
        have E15 := Lib.hid T15
        clear T15 E14
        go_wp2_with (first
          | (with_reducible refine wpE_load (o := ⟨some 58, _, _, _, _, _⟩) rfl 29 (.tmp 6) rfl 2 g3 29 (natsC (elemL ni)) _ (by with_unfolding_all rfl) (by with_unfolding_all rfl) Try.underlying29 rfl (sizeN Try.sz5e _ (elemL_length _)) E15.out ?_)
          | (with_reducible refine wpE_load (o := ⟨some 59, _, _, _, _, _⟩) rfl 29 (.tmp 6) rfl 2 g3 29 (natsC (elemL ni)) _ (by with_unfolding_all rfl) (by with_unfolding_all rfl) Try.underlying29 rfl (sizeN Try.sz5e _ (elemL_length _)) E15.out ?_))
        refine (C60.out _).mono ?_
        rintro e w15 ⟨rfl, b15⟩
        have E16 := Lib.hid (E15.out.call b15)
        clear b15 E15
        go_wp2_with fail
        refine (C61.out _).mono ?_
        rintro e w16 ⟨rfl, b16⟩
        have E17 := Lib.hid (E16.out.call b16)
        clear b16 E16
        go_wp2_with fail
        refine region_class _ E17.out.drew (by kernel_rfl) (by kernel_rfl) ?_
        refine qE_load (by rfl) _ (.tmp 10) rfl 0 g5 29 (natsC (elemL v39)) _ rfl rfl Try.underlying29 rfl (sizeN Try.sz5e _ (elemL_length _)) ?_
        simp only [Act.put, List.setIfInBounds_toArray, List.set_cons_zero, List.set_cons_succ]
        refine q_call (by rfl) 14 _ (fun W => by go_simp) (fun W hW => hW.calls (C49.out W)) ?_
        simp only [Act.put, List.setIfInBounds_toArray, List.set_cons_zero, List.set_cons_succ]
        refine q_call (by rfl) 26 _ (fun W => by go_simp) (fun W hW => hW.calls (C64.out W)) ?_
        simp only [Act.put, List.setIfInBounds_toArray, List.set_cons_zero, List.set_cons_succ]
        refine q_run (by rfl) (v := .bool true) (fun W _ => by go_simp) ?_
        simp only [Act.put, List.setIfInBounds_toArray, List.set_cons_zero, List.set_cons_succ]
        refine wpQuiet_nil ?_
        intro w17 T18
        have E18 := Lib.hid T18
        clear T18 E17
        go_wp2_with (first
          | (with_reducible refine wpE_load (o := ⟨some 65, _, _, _, _, _⟩) rfl 29 (.tmp 10) rfl 0 g5 29 (natsC (elemL v39)) _ (by with_unfolding_all rfl) (by with_unfolding_all rfl) Try.underlying29 rfl (sizeN Try.sz5e _ (elemL_length _)) E18.out ?_))
        refine (C66.out _).mono ?_
        rintro e w18 ⟨rfl, b18⟩
        have E19 := Lib.hid (E18.out.call b18)
        clear b18 E18
        go_wp2_with fail
        go_ret
        exact E19.out.ret _
      · refine wp_alloc_row 29 rfl (natsC (zero5)) Try.zero5e fun g5 v2 nv2 => hK _ _ (.inr ?_) ?_
        · exact (D1.new nv2).less (List.sublist_cons_self _ _)
        have D2 := D1.new nv2
        clear hK K nv2
        simp only [Act.put, List.setIfInBounds_toArray, List.set_cons_zero, List.set_cons_succ]
        refine walkS_only (i := 3) (o := ⟨some 39, _, _, _, _, _⟩) (by kernel_rfl) rfl rfl fun K hK => ?_
        go_simp
        refine (C39.out _).mono ?_
        rintro e v3 ⟨rfl, bv3⟩
        have D3 := D2.call bv3
        clear bv3
        refine hK _ _ (.inr (D3.less (List.sublist_cons_self _ _))) ?_
        clear hK K
        try simp only [Act.put, List.setIfInBounds_toArray, List.set_cons_zero, List.set_cons_succ]
        refine walkS_only (i := 5) (o := ⟨none, _, _, _, _, _⟩) (by kernel_rfl) rfl rfl fun K hK => ?_
        refine wp_store_row 29 (.tmp 10) (.tmp 39) rfl g5 29 (natsC (zero5)) (natsC (elemL v39)) rfl rfl (D3.row 0 rfl) (natsC_same zero5_length (elemL_length _)) (sizeN Try.sz5e _ (elemL_length _)) (natsC_one _) ?_
        intro v4 pv4
        have T12 := D3.put 0 rfl pv4
        simp only [List.set_cons_zero] at T12
        refine hK _ _ (.inr (T12.less (List.sublist_cons_self _ _))) (walkS_done (by kernel_rfl) ?_ _)
        clear hK K pv4
        have E12 := Lib.hid T12
        clear T12
        go_wp2_with (first
          | (with_reducible refine wpE_load (o := ⟨some 40, _, _, _, _, _⟩) rfl 29 (.tmp 6) rfl 2 g3 29 (natsC (elemL ni)) _ (by with_unfolding_all rfl) (by with_unfolding_all rfl) Try.underlying29 rfl (sizeN Try.sz5e _ (elemL_length _)) E12.out ?_))
        refine (C41.out _).mono ?_
        rintro e w12 ⟨rfl, b12⟩
        have E13 := Lib.hid (E12.out.call b12)
        clear b12 E12
        go_wp2_with fail
        refine region_class _ E13.out.drew (by kernel_rfl) (by kernel_rfl) ?_
        refine qE_load (by rfl) _ (.tmp 6) rfl 2 g3 29 (natsC (elemL ni)) _ rfl rfl Try.underlying29 rfl (sizeN Try.sz5e _ (elemL_length _)) ?_
        simp only [Act.put, List.setIfInBounds_toArray, List.set_cons_zero, List.set_cons_succ]
        refine q_call (by rfl) 14 _ (fun W => by go_simp) (fun W hW => hW.calls (C43.out W)) ?_
        simp only [Act.put, List.setIfInBounds_toArray, List.set_cons_zero, List.set_cons_succ]
        refine q_call (by rfl) 20 _ (fun W => by go_simp) (fun W hW => hW.calls (C44.out W)) ?_
        simp only [Act.put, List.setIfInBounds_toArray, List.set_cons_zero, List.set_cons_succ]
        refine qE_load (by rfl) _ (.tmp 6) rfl 2 g3 29 (natsC (elemL ni)) _ rfl rfl Try.underlying29 rfl (sizeN Try.sz5e _ (elemL_length _)) ?_
        simp only [Act.put, List.setIfInBounds_toArray, List.set_cons_zero, List.set_cons_succ]
        refine q_call (by rfl) 26 _ (fun W => by go_simp) (fun W hW => hW.calls (C46.out W)) ?_
        simp only [Act.put, List.setIfInBounds_toArray, List.set_cons_zero, List.set_cons_succ]
        refine q_run (by rfl) (v := .bool true) (fun W _ => by go_simp) ?_
        simp only [Act.put, List.setIfInBounds_toArray, List.set_cons_zero, List.set_cons_succ]
        refine qE_load (by rfl) _ (.tmp 6) rfl 2 g3 29 (natsC (elemL ni)) _ rfl rfl Try.underlying29 rfl (sizeN Try.sz5e _ (elemL_length _)) ?_
        simp only [Act.put, List.setIfInBounds_toArray, List.set_cons_zero, List.set_cons_succ]
        refine q_call (by rfl) 14 _ (fun W => by go_simp) (fun W hW => hW.calls (C49.out W)) ?_
        simp only [Act.put, List.setIfInBounds_toArray, List.set_cons_zero, List.set_cons_succ]
        refine q_call (by rfl) 22 _ (fun W => by go_simp) (fun W hW => hW.calls (C50.out W)) ?_
        simp only [Act.put, List.setIfInBounds_toArray, List.set_cons_zero, List.set_cons_succ]
        refine qE_load (by rfl) _ (.tmp 6) rfl 2 g3 29 (natsC (elemL ni)) _ rfl rfl Try.underlying29 rfl (sizeN Try.sz5e _ (elemL_length _)) ?_
        simp only [Act.put, List.setIfInBounds_toArray, List.set_cons_zero, List.set_cons_succ]
        refine q_call (by rfl) 26 _ (fun W => by go_simp) (fun W hW => hW.calls (C52.out W)) ?_
        simp only [Act.put, List.setIfInBounds_toArray, List.set_cons_zero, List.set_cons_succ]
        refine q_run (by rfl) (v := .bool true) (fun W _ => by go_simp) ?_
        simp only [Act.put, List.setIfInBounds_toArray, List.set_cons_zero, List.set_cons_succ]
        refine q_run (by rfl) (v := .bool true) (fun W _ => by go_simp) ?_
        simp only [Act.put, List.setIfInBounds_toArray, List.set_cons_zero, List.set_cons_succ]
        refine wpQuiet_nil ?_
        intro w13 T14
        have E14 := Lib.hid T14
        clear T14 E13
        go_wp2_with fail
        refine region_class _ E14.out.drew (by kernel_rfl) (by kernel_rfl) ?_
        refine qE_load (by rfl) _ (.tmp 6) rfl 2 g3 29 (natsC (elemL ni)) _ rfl rfl Try.underlying29 rfl (sizeN Try.sz5e _ (elemL_length _)) ?_
        simp only [Act.put, List.setIfInBounds_toArray, List.set_cons_zero, List.set_cons_succ]
        refine q_call (by rfl) 14 _ (fun W => by go_simp) (fun W hW => hW.calls (C43.out W)) ?_
        simp only [Act.put, List.setIfInBounds_toArray, List.set_cons_zero, List.set_cons_succ]
        refine q_call (by rfl) 22 _ (fun W => by go_simp) (fun W hW => hW.calls (C56.out W)) ?_
        simp only [Act.put, List.setIfInBounds_toArray, List.set_cons_zero, List.set_cons_succ]
        refine q_call (by rfl) 15 _ (fun W => by go_simp) (fun W hW => hW.calls (C57.out W)) ?_
        simp only [Act.put, List.setIfInBounds_toArray, List.set_cons_zero, List.set_cons_succ]
        refine q_run (by rfl) (v := .bool true) (fun W _ => by go_simp) ?_
        simp only [Act.put, List.setIfInBounds_toArray, List.set_cons_zero, List.set_cons_succ]
        refine wpQuiet_nil ?_
        intro w14 T15
        have E15 := Lib.hid T15
        clear T15 E14
        go_wp2_with (first
          | (with_reducible refine wpE_load (o := ⟨some 58, _, _, _, _, _⟩) rfl 29 (.tmp 6) rfl 2 g3 29 (natsC (elemL ni)) _ (by with_unfolding_all rfl) (by with_unfolding_all rfl) Try.underlying29 rfl (sizeN Try.sz5e _ (elemL_length _)) E15.out ?_)
          | (with_reducible refine wpE_load (o := ⟨some 59, _, _, _, _, _⟩) rfl 29 (.tmp 6) rfl 2 g3 29 (natsC (elemL ni)) _ (by with_unfolding_all rfl) (by with_unfolding_all rfl) Try.underlying29 rfl (sizeN Try.sz5e _ (elemL_length _)) E15.out ?_))
        refine (C60.out _).mono ?_
        rintro e w15 ⟨rfl, b15⟩
        have E16 := Lib.hid (E15.out.call b15)
        clear b15 E15
        go_wp2_with fail
        refine (C61.out _).mono ?_
        rintro e w16 ⟨rfl, b16⟩
        have E17 := Lib.hid (E16.out.call b16)
        clear b16 E16
        go_wp2_with fail
        refine region_class _ E17.out.drew (by kernel_rfl) (by kernel_rfl) ?_
        refine qE_load (by rfl) _ (.tmp 10) rfl 0 g5 29 (natsC (elemL v39)) _ rfl rfl Try.underlying29 rfl (sizeN Try.sz5e _ (elemL_length _)) ?_
        simp only [Act.put, List.setIfInBounds_toArray, List.set_cons_zero, List.set_cons_succ]
        refine q_call (by rfl) 14 _ (fun W => by go_simp) (fun W hW => hW.calls (C49.out W)) ?_
        simp only [Act.put, List.setIfInBounds_toArray, List.set_cons_zero, List.set_cons_succ]
        refine q_call (by rfl) 26 _ (fun W => by go_simp) (fun W hW => hW.calls (C64.out W)) ?_
        simp only [Act.put, List.setIfInBounds_toArray, List.set_cons_zero, List.set_cons_succ]
        refine q_run (by rfl) (v := .bool true) (fun W _ => by go_simp) ?_
        simp only [Act.put, List.setIfInBounds_toArray, List.set_cons_zero, List.set_cons_succ]
        refine wpQuiet_nil ?_
        intro w17 T18
        have E18 := Lib.hid T18
        clear T18 E17
        go_wp2_with (first
          | (with_reducible refine wpE_load (o := ⟨some 65, _, _, _, _, _⟩) rfl 29 (.tmp 10) rfl 0 g5 29 (natsC (elemL v39)) _ (by with_unfolding_all rfl) (by with_unfolding_all rfl) Try.underlying29 rfl (sizeN Try.sz5e _ (elemL_length _)) E18.out ?_))
        refine (C66.out _).mono ?_
        rintro e w18 ⟨rfl, b18⟩
        have E19 := Lib.hid (E18.out.call b18)
        clear b18 E18
        go_wp2_with fail
        go_ret
        exact E19.out.ret _
    · refine wp_alloc_row 29 rfl (natsC (zero5)) Try.zero5e fun g5 v1 nv1 => hK _ _ (.inr ?_) ?_
      · exact (D0.new nv1).less (List.sublist_cons_self _ _)
      have D1 := D0.new nv1
      clear hK K nv1
      simp only [Act.put, List.setIfInBounds_toArray, List.set_cons_zero, List.set_cons_succ]
      refine walkS_only (i := 2) (o := ⟨some 38, _, _, _, _, _⟩) (by kernel_rfl) rfl rfl fun K hK => ?_
      go_simp
      refine (C38.out _).mono ?_
      rintro e v2 ⟨rfl, bv2⟩
      have D2 := D1.call bv2
      clear bv2
      refine hK _ _ (.inr (D2.less (List.sublist_cons_self _ _))) ?_
      clear hK K
      try simp only [Act.put, List.setIfInBounds_toArray, List.set_cons_zero, List.set_cons_succ]
      refine walkS_only (i := 3) (o := ⟨some 39, _, _, _, _, _⟩) (by kernel_rfl) rfl rfl fun K hK => ?_
      go_simp
      refine (C39.out _).mono ?_
      rintro e v3 ⟨rfl, bv3⟩
      have D3 := D2.call bv3
      clear bv3
      refine hK _ _ (.inr (D3.less (List.sublist_cons_self _ _))) ?_
      clear hK K
      try simp only [Act.put, List.setIfInBounds_toArray, List.set_cons_zero, List.set_cons_succ]
      refine walkS_only (i := 5) (o := ⟨none, _, _, _, _, _⟩) (by kernel_rfl) rfl rfl fun K hK => ?_
      refine wp_store_row 29 (.tmp 10) (.tmp 39) rfl g5 29 (natsC (zero5)) (natsC (elemL v39)) rfl rfl (D3.row 0 rfl) (natsC_same zero5_length (elemL_length _)) (sizeN Try.sz5e _ (elemL_length _)) (natsC_one _) ?_
      intro v4 pv4
      have T12 := D3.put 0 rfl pv4
      simp only [List.set_cons_zero] at T12
      refine hK _ _ (.inr (T12.less (List.sublist_cons_self _ _))) (walkS_done (by kernel_rfl) ?_ _)
      clear hK K pv4
      have E12 := Lib.hid T12
      clear T12
      go_wp2_with (first
        | (with_reducible refine wpE_load (o := ⟨some 40, _, _, _, _, _⟩) rfl 29 (.tmp 6) rfl 2 g3 29 (natsC (elemL ni)) _ (by with_unfolding_all rfl) (by with_unfolding_all rfl) Try.underlying29 rfl (sizeN Try.sz5e _ (elemL_length _)) E12.out ?_))
      refine (C41.out _).mono ?_
      rintro e w12 ⟨rfl, b12⟩
      have E13 := Lib.hid (E12.out.call b12)
      clear b12 E12
      go_wp2_with fail
      refine region_class _ E13.out.drew (by kernel_rfl) (by kernel_rfl) ?_
      refine qE_load (by rfl) _ (.tmp 6) rfl 2 g3 29 (natsC (elemL ni)) _ rfl rfl Try.underlying29 rfl (sizeN Try.sz5e _ (elemL_length _)) ?_
      simp only [Act.put, List.setIfInBounds_toArray, List.set_cons_zero, List.set_cons_succ]
      refine q_call (by rfl) 14 _ (fun W => by go_simp) (fun W hW => hW.calls (C43.out W)) ?_
      simp only [Act.put, List.setIfInBounds_toArray, List.set_cons_zero, List.set_cons_succ]
      refine q_call (by rfl) 20 _ (fun W => by go_simp) (fun W hW => hW.calls (C44.out W)) ?_
      simp only [Act.put, List.setIfInBounds_toArray, List.set_cons_zero, List.set_cons_succ]
      refine qE_load (by rfl) _ (.tmp 6) rfl 2 g3 29 (natsC (elemL ni)) _ rfl rfl Try.underlying29 rfl (sizeN Try.sz5e _ (elemL_length _)) ?_
      simp only [Act.put, List.setIfInBounds_toArray, List.set_cons_zero, List.set_cons_succ]
      refine q_call (by rfl) 26 _ (fun W => by go_simp) (fun W hW => hW.calls (C46.out W)) ?_
      simp only [Act.put, List.setIfInBounds_toArray, List.set_cons_zero, List.set_cons_succ]
      refine q_run (by rfl) (v := .bool true) (fun W _ => by go_simp) ?_
      simp only [Act.put, List.setIfInBounds_toArray, List.set_cons_zero, List.set_cons_succ]
      refine qE_load (by rfl) _ (.tmp 6) rfl 2 g3 29 (natsC (elemL ni)) _ rfl rfl Try.underlying29 rfl (sizeN Try.sz5e _ (elemL_length _)) ?_
      simp only [Act.put, List.setIfInBounds_toArray, List.set_cons_zero, List.set_cons_succ]
      refine q_call (by rfl) 14 _ (fun W => by go_simp) (fun W hW => hW.calls (C49.out W)) ?_
      simp only [Act.put, List.setIfInBounds_toArray, List.set_cons_zero, List.set_cons_succ]
      refine q_call (by rfl) 22 _ (fun W => by go_simp) (fun W hW => hW.calls (C50.out W)) ?_
      simp only [Act.put, List.setIfInBounds_toArray, List.set_cons_zero, List.set_cons_succ]
      refine qE_load (by rfl) _ (.tmp 6) rfl 2 g3 29 (natsC (elemL ni)) _ rfl rfl Try.underlying29 rfl (sizeN Try.sz5e _ (elemL_length _)) ?_
      simp only [Act.put, List.setIfInBounds_toArray, List.set_cons_zero, List.set_cons_succ]
      refine q_call (by rfl) 26 _ (fun W => by go_simp) (fun W hW => hW.calls (C52.out W)) ?_
      simp only [Act.put, List.setIfInBounds_toArray, List.set_cons_zero, List.set_cons_succ]
      refine q_run (by rfl) (v := .bool true) (fun W _ => by go_simp) ?_
      simp only [Act.put, List.setIfInBounds_toArray, List.set_cons_zero, List.set_cons_succ]
      refine q_run (by rfl) (v := .bool true) (fun W _ => by go_simp) ?_
      simp only [Act.put, List.setIfInBounds_toArray, List.set_cons_zero, List.set_cons_succ]
      refine wpQuiet_nil ?_
      intro w13 T14
      have E14 := Lib.hid T14
      clear T14 E13
      go_wp2_with fail
      refine region_class _ E14.out.drew (by kernel_rfl) (by kernel_rfl) ?_
      refine qE_load (by rfl) _ (.tmp 6) rfl 2 g3 29 (natsC (elemL ni)) _ rfl rfl Try.underlying29 rfl (sizeN Try.sz5e _ (elemL_length _)) ?_
      simp only [Act.put, List.setIfInBounds_toArray, List.set_cons_zero, List.set_cons_succ]
      refine q_call (by rfl) 14 _ (fun W => by go_simp) (fun W hW => hW.calls (C43.out W)) ?_
      simp only [Act.put, List.setIfInBounds_toArray, List.set_cons_zero, List.set_cons_succ]
      refine q_call (by rfl) 22 _ (fun W => by go_simp) (fun W hW => hW.calls (C56.out W)) ?_
      simp only [Act.put, List.setIfInBounds_toArray, List.set_cons_zero, List.set_cons_succ]
      refine q_call (by rfl) 15 _ (fun W => by go_simp) (fun W hW => hW.calls (C57.out W)) ?_
      simp only [Act.put, List.setIfInBounds_toArray, List.set_cons_zero, List.set_cons_succ]
      refine q_run (by rfl) (v := .bool true) (fun W _ => by go_simp) ?_
      simp only [Act.put, List.setIfInBounds_toArray, List.set_cons_zero, List.set_cons_succ]
      refine wpQuiet_nil ?_
      intro w14 T15
      have E15 := Lib.hid T15
      clear T15 E14
      go_wp2_with (first
        | (with_reducible refine wpE_load (o := ⟨some 58, _, _, _, _, _⟩) rfl 29 (.tmp 6) rfl 2 g3 29 (natsC (elemL ni)) _ (by with_unfolding_all rfl) (by with_unfolding_all rfl) Try.underlying29 rfl (sizeN Try.sz5e _ (elemL_length _)) E15.out ?_)
        | (with_reducible refine wpE_load (o := ⟨some 59, _, _, _, _, _⟩) rfl 29 (.tmp 6) rfl 2 g3 29 (natsC (elemL ni)) _ (by with_unfolding_all rfl) (by with_unfolding_all rfl) Try.underlying29 rfl (sizeN Try.sz5e _ (elemL_length _)) E15.out ?_))
      refine (C60.out _).mono ?_
      rintro e w15 ⟨rfl, b15⟩
      have E16 := Lib.hid (E15.out.call b15)
      clear b15 E15
      go_wp2_with fail
      refine (C61.out _).mono ?_
      rintro e w16 ⟨rfl, b16⟩
      have E17 := Lib.hid (E16.out.call b16)
      clear b16 E16
      go_wp2_with fail
      refine region_class _ E17.out.drew (by kernel_rfl) (by kernel_rfl) ?_
      refine qE_load (by rfl) _ (.tmp 10) rfl 0 g5 29 (natsC (elemL v39)) _ rfl rfl Try.underlying29 rfl (sizeN Try.sz5e _ (elemL_length _)) ?_
      simp only [Act.put, List.setIfInBounds_toArray, List.set_cons_zero, List.set_cons_succ]
      refine q_call (by rfl) 14 _ (fun W => by go_simp) (fun W hW => hW.calls (C49.out W)) ?_
      simp only [Act.put, List.setIfInBounds_toArray, List.set_cons_zero, List.set_cons_succ]
      refine q_call (by rfl) 26 _ (fun W => by go_simp) (fun W hW => hW.calls (C64.out W)) ?_
      simp only [Act.put, List.setIfInBounds_toArray, List.set_cons_zero, List.set_cons_succ]
      refine q_run (by rfl) (v := .bool true) (fun W _ => by go_simp) ?_
      simp only [Act.put, List.setIfInBounds_toArray, List.set_cons_zero, List.set_cons_succ]
      refine wpQuiet_nil ?_
      intro w17 T18
      have E18 := Lib.hid T18
      clear T18 E17
      go_wp2_with (first
        | (with_reducible refine wpE_load (o := ⟨some 65, _, _, _, _, _⟩) rfl 29 (.tmp 10) rfl 0 g5 29 (natsC (elemL v39)) _ (by with_unfolding_all rfl) (by with_unfolding_all rfl) Try.underlying29 rfl (sizeN Try.sz5e _ (elemL_length _)) E18.out ?_))
      refine (C66.out _).mono ?_
      rintro e w18 ⟨rfl, b18⟩
      have E19 := Lib.hid (E18.out.call b18)
      clear b18 E18
      go_wp2_with fail
      go_ret
      exact E19.out.ret _
end Go.Proofs.Ytejingggfbmbjaa
