/-
  FieldWhole, walked: the call returns true. Conditions: none beyond the law's own.
-/
import Derived.Test.YtejingggfbmbjaaFieldM
import Derived.Test.YtejingggfbmbjaaFieldLaws
namespace Go.Proofs.Ytejingggfbmbjaa
open Go.RowKit
set_option linter.unusedVariables false
set_option maxRecDepth 20000

theorem top_byte (n : Nat) (h : n < pF) : ((lowB n 32).getD 31 0).toNat < 128 := by
  have e : (lowB n 32).getD 31 0 = byteN n 31 := by simp [lowB, List.getD_eq_getElem?_getD]
  rw [e, byteN_toNat]
  unfold pF at h
  omega
theorem key_eq (a b : Nat) (ha : a < pF) (hb : b < pF) : (lowB a 32 == lowB b 32) = (a == b) := by
  rw [Bool.eq_iff_iff, beq_iff_eq, beq_iff_eq]
  refine ⟨fun h => ?_, fun h => by rw [h]⟩
  have e := congrArg numK h
  rwa [numK_key a ha, numK_key b hb] at e
theorem bytesC_cellD {w : World} {g : Nat} {t : TypeId} {l : List UInt8} (h : RowAt w g t (keyC l)) (j : Nat) (hj : j < l.length) : w.cell? ⟨g, j, none⟩ = some (.int .u8 ((l.getD j 0).toNat : Int)) := by
  rw [bytesC_cell h j hj]
  simp [List.getD_eq_getElem?_getD, hj]

set_option maxHeartbeats 4000000 in
theorem fieldWhole_walk (w : World) (i : List UInt8) (hi : i.length = 32) (j : List UInt8) (hj : j.length = 32) :
    Calls Try.prog 8 #[keyV i, keyV j] w (RetV w (.bool true)) := by
  obtain ⟨ni, hni⟩ : ∃ v, v = numK i := ⟨_, rfl⟩
  have bni : ni < pF := by rw [hni]; exact numK_lt i
  have Li := Lib.hid hi
  obtain ⟨nj, hnj⟩ : ∃ v, v = numK j := ⟨_, rfl⟩
  have bnj : nj < pF := by rw [hnj]; exact numK_lt j
  have Lj := Lib.hid hj
  have C13 : Hid (∀ w, Calls Try.prog 11 #[] w (RetV w (.bool true))) := fun w => awake_any w
  have C15 : Hid (∀ w, Calls Try.prog 19 #[.agg (keyC (i))] w (RetV w (.agg (natsC (elemL ni))))) := by rw [hni]; exact fun w => of_any i hi w
  have C17 : Hid (∀ w, Calls Try.prog 19 #[.agg (keyC (j))] w (RetV w (.agg (natsC (elemL nj))))) := by rw [hnj]; exact fun w => of_any j hj w
  obtain ⟨k19, hk19⟩ : ∃ v, v = lowB ni 32 := ⟨_, rfl⟩
  have Lk19 : Hid (k19.length = 32) := by show _ = _; rw [hk19]; exact lowB_length _ _
  have C19 : Hid (∀ w, Calls Try.prog 16 #[.agg (natsC (elemL ni))] w (RetV w (.agg (keyC (k19))))) := by rw [hk19]; exact fun w => Key_any ni bni w
  obtain ⟨v22, hv22⟩ : ∃ v, v = numK k19 := ⟨_, rfl⟩
  have e22 : v22 = ni := by rw [hv22, hk19, numK_key ni bni]
  have bv22 : v22 < pF := by rw [e22]; exact bni
  have d22 : decide (ofLowB k19 < pF) = true := by rw [decide_eq_true_eq, hk19, ofLowB_lowB, Nat.mod_eq_of_lt (a := ni) (Nat.lt_trans bni (by decide))]; exact bni
  have C22 : Hid (∀ w, Calls Try.prog 12 #[.agg (keyC (k19))] w (RetV w (.tuple #[.agg (natsC (elemL v22)), .bool true]))) := fun w => by have h := Of_any k19 Lk19.out w; rwa [d22, ← hv22] at h
  have q27 : (v22 == ni) = true := by rw [beq_iff_eq, e22]
  have C27 : Hid (∀ w, Calls Try.prog 26 #[.agg (natsC (elemL v22)), .agg (natsC (elemL ni))] w (RetV w (.bool true))) := fun w => by have h := Equal_any v22 ni bv22 bni w; rwa [q27] at h
  obtain ⟨r30, hr30⟩ : ∃ r, r = (ni == nj) := ⟨_, rfl⟩
  have C30 : Hid (∀ w, Calls Try.prog 26 #[.agg (natsC (elemL ni)), .agg (natsC (elemL nj))] w (RetV w (.bool r30))) := by rw [hr30]; exact fun w => Equal_any ni nj bni bnj w
  obtain ⟨k40, hk40⟩ : ∃ v, v = lowB v22 32 := ⟨_, rfl⟩
  have Lk40 : Hid (k40.length = 32) := by show _ = _; rw [hk40]; exact lowB_length _ _
  have C40 : Hid (∀ w, Calls Try.prog 16 #[.agg (natsC (elemL v22))] w (RetV w (.agg (keyC (k40))))) := by rw [hk40]; exact fun w => Key_any v22 bv22 w
  have Q42 : Hid (∀ W, (Op.equalIn 10000 23 (.agg (keyC k40)) (.agg (keyC k19))).run Try.prog W = .ok true W) := fun W => by rw [Try.eqKeyIn k40 k19 Lk40.out Lk19.out W]; exact congrArg (fun v => Result.ok v W) (by rw [beq_iff_eq, hk40, hk19, e22])
  obtain ⟨t31, ht31⟩ : ∃ v, v = (k19.getD 31 0).toNat := ⟨_, rfl⟩
  have T31 : (t31 : Int) < 128 := by rw [ht31, hk19]; have := top_byte ni bni; omega
  have HT31 := Lib.hid ht31
  obtain ⟨k53, hk53⟩ : ∃ v, v = lowB nj 32 := ⟨_, rfl⟩
  have Lk53 : Hid (k53.length = 32) := by show _ = _; rw [hk53]; exact lowB_length _ _
  have C53 : Hid (∀ w, Calls Try.prog 16 #[.agg (natsC (elemL nj))] w (RetV w (.agg (keyC (k53))))) := by rw [hk53]; exact fun w => Key_any nj bnj w
  have Q54 : Hid (∀ W, (Op.equalIn 10000 23 (.agg (keyC k19)) (.agg (keyC k53))).run Try.prog W = .ok r30 W) := fun W => by rw [Try.eqKeyIn k19 k53 Lk19.out Lk53.out W]; exact congrArg (fun v => Result.ok v W) (by rw [hr30, hk19, hk53]; exact key_eq _ _ bni bnj)
  clear hni hnj bni bnj hi hj hk19 hv22 e22 bv22 d22 q27 hr30 hk40 ht31 hk53
  have E0 := Lib.hid (Env.start w)
  go_enter Try.func8, Try.ntmps8
  go_wp2_with (first
    | ((with_reducible refine wpE_box (o := ⟨some 2, _, _, _, _, _⟩) rfl 23 (.tmp 0) rfl (keyC (i)) (by with_unfolding_all rfl) E0.out ?_); intro g1 w1 T1; have E1 := Lib.hid T1; clear T1)
    | ((with_reducible refine wpE_box (o := ⟨some 3, _, _, _, _, _⟩) rfl 23 (.tmp 1) rfl (keyC (j)) (by with_unfolding_all rfl) E1.out ?_); intro g2 w2 T2; have E2 := Lib.hid T2; clear T2))
  refine (C13.out _).mono ?_
  rintro e w3 ⟨rfl, b3⟩
  have E3 := Lib.hid (E2.out.call b3)
  clear b3 E2
  go_wp2_with (first
    | (with_reducible refine wpE_load (o := ⟨some 14, _, _, _, _, _⟩) rfl 23 (.tmp 2) rfl 1 g1 23 (keyC (i)) _ (by with_unfolding_all rfl) (by with_unfolding_all rfl) Try.underlying23 rfl (Try.sizeKey _ Li.out) E3.out ?_))
  refine (C15.out _).mono ?_
  rintro e w4 ⟨rfl, b4⟩
  have E4 := Lib.hid (E3.out.call b4)
  clear b4 E3
  go_wp2_with (first
    | ((with_reducible refine wpE_alloc (o := ⟨some 6, _, _, _, _, _⟩) rfl 29 rfl (natsC (zero5)) Try.zero5e E4.out ?_); intro g3 w5 T5; have E5 := Lib.hid T5; clear T5)
    | ((with_reducible refine wpE_store (o := ⟨none, _, _, _, _, _⟩) rfl 29 (.tmp 6) (.tmp 15) rfl 0 g3 29 (natsC (zero5)) (natsC (elemL ni)) (by with_unfolding_all rfl) (by with_unfolding_all rfl) (by with_unfolding_all rfl) (natsC_same zero5_length (elemL_length _)) (sizeN Try.sz5e _ (elemL_length _)) (natsC_one _) E5.out ?_); intro w6 T6; simp only [List.set_cons_zero] at T6; have E6 := Lib.hid T6; clear T6)
    | (with_reducible refine wpE_load (o := ⟨some 16, _, _, _, _, _⟩) rfl 23 (.tmp 3) rfl 1 g2 23 (keyC (j)) _ (by with_unfolding_all rfl) (by with_unfolding_all rfl) Try.underlying23 rfl (Try.sizeKey _ Lj.out) E6.out ?_))
  refine (C17.out _).mono ?_
  rintro e w7 ⟨rfl, b7⟩
  have E7 := Lib.hid (E6.out.call b7)
  clear b7 E6
  go_wp2_with (first
    | ((with_reducible refine wpE_alloc (o := ⟨some 7, _, _, _, _, _⟩) rfl 29 rfl (natsC (zero5)) Try.zero5e E7.out ?_); intro g4 w8 T8; have E8 := Lib.hid T8; clear T8)
    | ((with_reducible refine wpE_store (o := ⟨none, _, _, _, _, _⟩) rfl 29 (.tmp 7) (.tmp 17) rfl 0 g4 29 (natsC (zero5)) (natsC (elemL nj)) (by with_unfolding_all rfl) (by with_unfolding_all rfl) (by with_unfolding_all rfl) (natsC_same zero5_length (elemL_length _)) (sizeN Try.sz5e _ (elemL_length _)) (natsC_one _) E8.out ?_); intro w9 T9; simp only [List.set_cons_zero] at T9; have E9 := Lib.hid T9; clear T9)
    | (with_reducible refine wpE_load (o := ⟨some 18, _, _, _, _, _⟩) rfl 29 (.tmp 6) rfl 1 g3 29 (natsC (elemL ni)) _ (by with_unfolding_all rfl) (by with_unfolding_all rfl) Try.underlying29 rfl (sizeN Try.sz5e _ (elemL_length _)) E9.out ?_))
  refine (C19.out _).mono ?_
  rintro e w10 ⟨rfl, b10⟩
  have E10 := Lib.hid (E9.out.call b10)
  clear b10 E9
  go_wp2_with (first
    | ((with_reducible refine wpE_alloc (o := ⟨some 8, _, _, _, _, _⟩) rfl 23 rfl (keyC (zeroKey)) Try.zeroK E10.out ?_); intro g5 w11 T11; have E11 := Lib.hid T11; clear T11)
    | ((with_reducible refine wpE_store (o := ⟨none, _, _, _, _, _⟩) rfl 23 (.tmp 8) (.tmp 19) rfl 0 g5 23 (keyC (zeroKey)) (keyC (k19)) (by with_unfolding_all rfl) (by with_unfolding_all rfl) (by with_unfolding_all rfl) (keyC_same zeroKey_length Lk19.out) (Try.sizeKey _ Lk19.out) (keyC_one _) E11.out ?_); intro w12 T12; simp only [List.set_cons_zero] at T12; have E12 := Lib.hid T12; clear T12)
    | (with_reducible refine wpE_load (o := ⟨some 21, _, _, _, _, _⟩) rfl 23 (.tmp 8) rfl 0 g5 23 (keyC (k19)) _ (by with_unfolding_all rfl) (by with_unfolding_all rfl) Try.underlying23 rfl (Try.sizeKey _ Lk19.out) E12.out ?_))
  refine (C22.out _).mono ?_
  rintro e w13 ⟨rfl, b13⟩
  have E13 := Lib.hid (E12.out.call b13)
  clear b13 E12
  go_wp2_with (first
    | ((with_reducible refine wpE_alloc (o := ⟨some 9, _, _, _, _, _⟩) rfl 29 rfl (natsC (zero5)) Try.zero5e E13.out ?_); intro g6 w14 T14; have E14 := Lib.hid T14; clear T14)
    | ((with_reducible refine wpE_store (o := ⟨none, _, _, _, _, _⟩) rfl 29 (.tmp 9) (.tmp 23) rfl 0 g6 29 (natsC (zero5)) (natsC (elemL v22)) (by with_unfolding_all rfl) (by with_unfolding_all rfl) (by with_unfolding_all rfl) (natsC_same zero5_length (elemL_length _)) (sizeN Try.sz5e _ (elemL_length _)) (natsC_one _) E14.out ?_); intro w15 T15; simp only [List.set_cons_zero] at T15; have E15 := Lib.hid T15; clear T15)
    | (with_reducible refine wpE_load (o := ⟨some 25, _, _, _, _, _⟩) rfl 29 (.tmp 9) rfl 0 g6 29 (natsC (elemL v22)) _ (by with_unfolding_all rfl) (by with_unfolding_all rfl) Try.underlying29 rfl (sizeN Try.sz5e _ (elemL_length _)) E15.out ?_)
    | (with_reducible refine wpE_load (o := ⟨some 26, _, _, _, _, _⟩) rfl 29 (.tmp 6) rfl 3 g3 29 (natsC (elemL ni)) _ (by with_unfolding_all rfl) (by with_unfolding_all rfl) Try.underlying29 rfl (sizeN Try.sz5e _ (elemL_length _)) E15.out ?_))
  refine (C27.out _).mono ?_
  rintro e w16 ⟨rfl, b16⟩
  have E16 := Lib.hid (E15.out.call b16)
  clear b16 E15
  go_wp2_with (first
    | (with_reducible refine wpE_load (o := ⟨some 28, _, _, _, _, _⟩) rfl 29 (.tmp 6) rfl 3 g3 29 (natsC (elemL ni)) _ (by with_unfolding_all rfl) (by with_unfolding_all rfl) Try.underlying29 rfl (sizeN Try.sz5e _ (elemL_length _)) E16.out ?_)
    | (with_reducible refine wpE_load (o := ⟨some 29, _, _, _, _, _⟩) rfl 29 (.tmp 7) rfl 2 g4 29 (natsC (elemL nj)) _ (by with_unfolding_all rfl) (by with_unfolding_all rfl) Try.underlying29 rfl (sizeN Try.sz5e _ (elemL_length _)) E16.out ?_))
  refine (C30.out _).mono ?_
  rintro e w17 ⟨rfl, b17⟩
  have E17 := Lib.hid (E16.out.call b17)
  clear b17 E16
  go_wp2_with fail
  refine region_class _ E17.out.drew (by kernel_rfl) (by kernel_rfl) ?_
  refine q_run (by rfl) (v := .bool true) (fun W _ => by go_simp) ?_
  simp only [Act.put, List.setIfInBounds_toArray, List.set_cons_zero, List.set_cons_succ]
  refine q_run (by rfl) (v := .bool true) (fun W _ => by go_simp) ?_
  simp only [Act.put, List.setIfInBounds_toArray, List.set_cons_zero, List.set_cons_succ]
  refine q_run (by rfl) (v := .bool true) (fun W _ => by go_simp) ?_
  simp only [Act.put, List.setIfInBounds_toArray, List.set_cons_zero, List.set_cons_succ]
  refine q_run (by rfl) (v := .bool true) (fun W _ => by go_simp) ?_
  simp only [Act.put, List.setIfInBounds_toArray, List.set_cons_zero, List.set_cons_succ]
  refine q_run (by rfl) (v := .bool true) (fun W _ => by go_simp) ?_
  simp only [Act.put, List.setIfInBounds_toArray, List.set_cons_zero, List.set_cons_succ]
  refine q_run (by rfl) (v := .bool true) (fun W _ => by go_simp) ?_
  simp only [Act.put, List.setIfInBounds_toArray, List.set_cons_zero, List.set_cons_succ]
  refine q_run (by rfl) (v := .bool true) (fun W _ => by go_simp) ?_
  simp only [Act.put, List.setIfInBounds_toArray, List.set_cons_zero, List.set_cons_succ]
  refine q_run (by rfl) (v := .bool true) (fun W _ => by go_simp) ?_
  simp only [Act.put, List.setIfInBounds_toArray, List.set_cons_zero, List.set_cons_succ]
  refine qE_load (by rfl) _ (.tmp 9) rfl 0 g6 29 (natsC (elemL v22)) _ rfl rfl Try.underlying29 rfl (sizeN Try.sz5e _ (elemL_length _)) ?_
  simp only [Act.put, List.setIfInBounds_toArray, List.set_cons_zero, List.set_cons_succ]
  refine q_call (by rfl) 16 _ (fun W => by go_simp) (fun W hW => hW.calls (C40.out W)) ?_
  simp only [Act.put, List.setIfInBounds_toArray, List.set_cons_zero, List.set_cons_succ]
  refine qE_load (by rfl) _ (.tmp 8) rfl 1 g5 23 (keyC (k19)) _ rfl rfl Try.underlying23 rfl (Try.sizeKey _ Lk19.out) ?_
  simp only [Act.put, List.setIfInBounds_toArray, List.set_cons_zero, List.set_cons_succ]
  refine q_run (by rfl) (v := .bool true) (fun W _ => by have hq := Q42.out; have hg := Try.eqGuardKey; go_simp) ?_
  simp only [Act.put, List.setIfInBounds_toArray, List.set_cons_zero, List.set_cons_succ]
  refine q_run (by rfl) (v := .bool true) (fun W _ => by go_simp) ?_
  simp only [Act.put, List.setIfInBounds_toArray, List.set_cons_zero, List.set_cons_succ]
  refine q_run (by rfl) (v := .bool true) (fun W _ => by go_simp) ?_
  simp only [Act.put, List.setIfInBounds_toArray, List.set_cons_zero, List.set_cons_succ]
  refine q_run (by rfl) (v := .pointer (some ⟨g5, 31, none⟩)) (fun W _ => by go_simp) ?_
  simp only [Act.put, List.setIfInBounds_toArray, List.set_cons_zero, List.set_cons_succ]
  refine q_run (by rfl) (v := .int .u8 (t31 : Int)) (fun W hW => by have hc := bytesC_cellD (hW.row 1 rfl) 31 (by rw [Lk19.out]; omega); rw [← HT31.out] at hc; clear hW; go_simp) ?_
  simp only [Act.put, List.setIfInBounds_toArray, List.set_cons_zero, List.set_cons_succ]
  refine q_run (by rfl) (v := .bool true) (fun W _ => by go_simp) ?_
  simp only [Act.put, List.setIfInBounds_toArray, List.set_cons_zero, List.set_cons_succ]
  refine q_run (by rfl) (v := .bool true) (fun W _ => by go_simp) ?_
  simp only [Act.put, List.setIfInBounds_toArray, List.set_cons_zero, List.set_cons_succ]
  refine q_run (by rfl) (v := .bool true) (fun W _ => by go_simp) ?_
  simp only [Act.put, List.setIfInBounds_toArray, List.set_cons_zero, List.set_cons_succ]
  refine q_run (by rfl) (v := .bool r30) (fun W _ => by go_simp) ?_
  simp only [Act.put, List.setIfInBounds_toArray, List.set_cons_zero, List.set_cons_succ]
  refine qE_load (by rfl) _ (.tmp 8) rfl 1 g5 23 (keyC (k19)) _ rfl rfl Try.underlying23 rfl (Try.sizeKey _ Lk19.out) ?_
  simp only [Act.put, List.setIfInBounds_toArray, List.set_cons_zero, List.set_cons_succ]
  refine qE_load (by rfl) _ (.tmp 7) rfl 2 g4 29 (natsC (elemL nj)) _ rfl rfl Try.underlying29 rfl (sizeN Try.sz5e _ (elemL_length _)) ?_
  simp only [Act.put, List.setIfInBounds_toArray, List.set_cons_zero, List.set_cons_succ]
  refine q_call (by rfl) 16 _ (fun W => by go_simp) (fun W hW => hW.calls (C53.out W)) ?_
  simp only [Act.put, List.setIfInBounds_toArray, List.set_cons_zero, List.set_cons_succ]
  refine q_run (by rfl) (v := .bool r30) (fun W _ => by have hq := Q54.out; have hg := Try.eqGuardKey; go_simp) ?_
  simp only [Act.put, List.setIfInBounds_toArray, List.set_cons_zero, List.set_cons_succ]
  refine q_run (by rfl) (v := .bool true) (fun W _ => by go_simp) ?_
  simp only [Act.put, List.setIfInBounds_toArray, List.set_cons_zero, List.set_cons_succ]
  refine q_run (by rfl) (v := .bool true) (fun W _ => by go_simp) ?_
  simp only [Act.put, List.setIfInBounds_toArray, List.set_cons_zero, List.set_cons_succ]
  refine q_run (by rfl) (v := .bool true) (fun W _ => by go_simp) ?_
  simp only [Act.put, List.setIfInBounds_toArray, List.set_cons_zero, List.set_cons_succ]
  refine wpQuiet_nil ?_
  intro w18 T18
  have E18 := Lib.hid T18
  clear T18 E17
  go_wp2_with fail
  go_ret
  exact E18.out.ret _
end Go.Proofs.Ytejingggfbmbjaa
