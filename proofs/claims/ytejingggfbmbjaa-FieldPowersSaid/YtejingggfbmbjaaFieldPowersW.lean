/-
  FieldPowers, walked: the call returns true. Conditions: none beyond the law's own.
-/
import Derived.Test.YtejingggfbmbjaaFieldRefP
import Derived.Test.YtejingggfbmbjaaFieldLaws
namespace Go.Proofs.Ytejingggfbmbjaa
open Go.RowKit
set_option linter.unusedVariables false
set_option maxRecDepth 20000

set_option maxHeartbeats 4000000 in
theorem fieldPowers_walk (w : World) (k : List UInt8) (hk : k.length = 32) (n : Nat) (hn : n < 18446744073709551616) :
    Calls Try.prog 5 #[keyV k, .int .u64 (n : Int)] w (RetV w (.bool true)) := by
  obtain ⟨nk, hnk⟩ : ∃ v, v = numK k := ⟨_, rfl⟩
  have bnk : nk < pF := by rw [hnk]; exact numK_lt k
  have Lk := Lib.hid hk
  have C11 : Hid (∀ w, Calls Try.prog 11 #[] w (RetV w (.bool true))) := fun w => awake_any w
  obtain ⟨ok, hok⟩ : ∃ r, r = decide (ofLowB k < pF) := ⟨_, rfl⟩
  have C14 : Hid (∀ w, Calls Try.prog 13 #[.agg (keyC (k))] w (RetV w (.tuple #[.agg (natsC (digR 16 nk)), .bool ok]))) := by rw [hnk, hok]; exact fun w => refOf_any k hk w
  have C18 : Hid (∀ w, Calls Try.prog 19 #[.agg (keyC (k))] w (RetV w (.agg (natsC (elemL nk))))) := by rw [hnk]; exact fun w => of_any k hk w
  obtain ⟨v21, hv21⟩ : ∃ v, v = powF nk n := ⟨_, rfl⟩
  have bv21 : v21 < pF := by rw [hv21]; exact powF_lt _ _
  have C21 : Hid (∀ w, Calls Try.prog 28 #[.agg (natsC (elemL nk)), .int .u64 (n : Int)] w (RetV w (.agg (natsC (elemL v21))))) := by rw [hv21]; exact fun w => Power_any nk bnk n (by omega) w
  obtain ⟨v23, hv23⟩ : ∃ v, v = invF nk := ⟨_, rfl⟩
  have bv23 : v23 < pF := by rw [hv23]; exact invF_lt _
  have C23 : Hid (∀ w, Calls Try.prog 29 #[.agg (natsC (elemL nk))] w (RetV w (.agg (natsC (elemL v23))))) := by rw [hv23]; exact fun w => Invert_any nk bnk w
  obtain ⟨k27, hk27⟩ : ∃ v, v = lowB v21 32 := ⟨_, rfl⟩
  have Lk27 : Hid (k27.length = 32) := by show _ = _; rw [hk27]; exact lowB_length _ _
  have C27 : Hid (∀ w, Calls Try.prog 16 #[.agg (natsC (elemL v21))] w (RetV w (.agg (keyC (k27))))) := by rw [hk27]; exact fun w => Key_any v21 bv21 w
  obtain ⟨v30, hv30⟩ : ∃ v, v = powF nk n := ⟨_, rfl⟩
  have bv30 : v30 < pF := by rw [hv30]; exact powF_lt _ _
  have C30 : Hid (∀ w, Calls Try.prog 30 #[.agg (natsC (digR 16 nk)), .int .u64 (n : Int)] w (RetV w (.agg (natsC (digR 16 v30))))) := by rw [hv30]; exact fun w => refPower_any nk bnk n (by omega) w
  obtain ⟨k31, hk31⟩ : ∃ v, v = lowB v30 32 := ⟨_, rfl⟩
  have Lk31 : Hid (k31.length = 32) := by show _ = _; rw [hk31]; exact lowB_length _ _
  have C31 : Hid (∀ w, Calls Try.prog 17 #[.agg (natsC (digR 16 v30))] w (RetV w (.agg (keyC (k31))))) := by rw [hk31]; exact fun w => refKey_any v30 w
  have Q32 : Hid (∀ W, (Op.equalIn 10000 23 (.agg (keyC k27)) (.agg (keyC k31))).run Try.prog W = .ok true W) := fun W => by rw [Try.eqKeyIn k27 k31 Lk27.out Lk31.out W]; exact congrArg (fun v => Result.ok v W) (by rw [beq_iff_eq, hk27, hk31, hv21, hv30])
  obtain ⟨k36, hk36⟩ : ∃ v, v = lowB v23 32 := ⟨_, rfl⟩
  have Lk36 : Hid (k36.length = 32) := by show _ = _; rw [hk36]; exact lowB_length _ _
  have C36 : Hid (∀ w, Calls Try.prog 16 #[.agg (natsC (elemL v23))] w (RetV w (.agg (keyC (k36))))) := by rw [hk36]; exact fun w => Key_any v23 bv23 w
  obtain ⟨v38, hv38⟩ : ∃ v, v = powF nk (pF - 2) := ⟨_, rfl⟩
  have bv38 : v38 < pF := by rw [hv38]; exact powF_lt _ _
  have C38 : Hid (∀ w, Calls Try.prog 31 #[.agg (natsC (digR 16 nk))] w (RetV w (.agg (natsC (digR 16 v38))))) := by rw [hv38]; exact fun w => refInvert_any nk bnk w
  obtain ⟨k39, hk39⟩ : ∃ v, v = lowB v38 32 := ⟨_, rfl⟩
  have Lk39 : Hid (k39.length = 32) := by show _ = _; rw [hk39]; exact lowB_length _ _
  have C39 : Hid (∀ w, Calls Try.prog 17 #[.agg (natsC (digR 16 v38))] w (RetV w (.agg (keyC (k39))))) := by rw [hk39]; exact fun w => refKey_any v38 w
  have Q40 : Hid (∀ W, (Op.equalIn 10000 23 (.agg (keyC k36)) (.agg (keyC k39))).run Try.prog W = .ok true W) := fun W => by rw [Try.eqKeyIn k36 k39 Lk36.out Lk39.out W]; exact congrArg (fun v => Result.ok v W) (by rw [beq_iff_eq, hk36, hk39, hv23, hv38]; rfl)
  clear hnk bnk hk hn hok hv21 bv21 hv23 bv23 hk27 hv30 bv30 hk31 hk36 hv38 bv38 hk39
  have E0 := Lib.hid (Env.start w)
  go_enter Try.func5, Try.ntmps5
  go_wp2_with (first
    | ((with_reducible refine wpE_box (o := ⟨some 2, _, _, _, _, _⟩) rfl 23 (.tmp 0) rfl (keyC (k)) (by with_unfolding_all rfl) E0.out ?_); intro g1 w1 T1; have E1 := Lib.hid T1; clear T1))
  refine (C11.out _).mono ?_
  rintro e w2 ⟨rfl, b2⟩
  have E2 := Lib.hid (E1.out.call b2)
  clear b2 E1
  go_wp2_with (first
    | (with_reducible refine wpE_load (o := ⟨some 13, _, _, _, _, _⟩) rfl 23 (.tmp 2) rfl 0 g1 23 (keyC (k)) _ (by with_unfolding_all rfl) (by with_unfolding_all rfl) Try.underlying23 rfl (Try.sizeKey _ Lk.out) E2.out ?_))
  refine (C14.out _).mono ?_
  rintro e w3 ⟨rfl, b3⟩
  have E3 := Lib.hid (E2.out.call b3)
  clear b3 E2
  go_wp2_with (first
    | ((with_reducible refine wpE_alloc (o := ⟨some 6, _, _, _, _, _⟩) rfl 33 rfl (natsC (zero16)) Try.zero16 E3.out ?_); intro g2 w4 T4; have E4 := Lib.hid T4; clear T4)
    | ((with_reducible refine wpE_store (o := ⟨none, _, _, _, _, _⟩) rfl 33 (.tmp 6) (.tmp 15) rfl 0 g2 33 (natsC (zero16)) (natsC (digR 16 nk)) (by with_unfolding_all rfl) (by with_unfolding_all rfl) (by with_unfolding_all rfl) (natsC_same zero16_length (digR_length 16 _)) (sizeN Try.sz16 _ (digR_length 16 _)) (natsC_one _) E4.out ?_); intro w5 T5; simp only [List.set_cons_zero] at T5; have E5 := Lib.hid T5; clear T5)
    | (with_reducible refine wpE_load (o := ⟨some 17, _, _, _, _, _⟩) rfl 23 (.tmp 2) rfl 1 g1 23 (keyC (k)) _ (by with_unfolding_all rfl) (by with_unfolding_all rfl) Try.underlying23 rfl (Try.sizeKey _ Lk.out) E5.out ?_))
  refine (C18.out _).mono ?_
  rintro e w6 ⟨rfl, b6⟩
  have E6 := Lib.hid (E5.out.call b6)
  clear b6 E5
  go_wp2_with (first
    | ((with_reducible refine wpE_alloc (o := ⟨some 8, _, _, _, _, _⟩) rfl 29 rfl (natsC (zero5)) Try.zero5e E6.out ?_); intro g3 w7 T7; have E7 := Lib.hid T7; clear T7)
    | ((with_reducible refine wpE_store (o := ⟨none, _, _, _, _, _⟩) rfl 29 (.tmp 8) (.tmp 18) rfl 0 g3 29 (natsC (zero5)) (natsC (elemL nk)) (by with_unfolding_all rfl) (by with_unfolding_all rfl) (by with_unfolding_all rfl) (natsC_same zero5_length (elemL_length _)) (sizeN Try.sz5e _ (elemL_length _)) (natsC_one _) E7.out ?_); intro w8 T8; simp only [List.set_cons_zero] at T8; have E8 := Lib.hid T8; clear T8)
    | (with_reducible refine wpE_load (o := ⟨some 19, _, _, _, _, _⟩) rfl 29 (.tmp 8) rfl 0 g3 29 (natsC (elemL nk)) _ (by with_unfolding_all rfl) (by with_unfolding_all rfl) Try.underlying29 rfl (sizeN Try.sz5e _ (elemL_length _)) E8.out ?_))
  refine (C21.out _).mono ?_
  rintro e w9 ⟨rfl, b9⟩
  have E9 := Lib.hid (E8.out.call b9)
  clear b9 E8
  go_wp2_with (first
    | ((with_reducible refine wpE_alloc (o := ⟨some 9, _, _, _, _, _⟩) rfl 29 rfl (natsC (zero5)) Try.zero5e E9.out ?_); intro g4 w10 T10; have E10 := Lib.hid T10; clear T10)
    | ((with_reducible refine wpE_store (o := ⟨none, _, _, _, _, _⟩) rfl 29 (.tmp 9) (.tmp 21) rfl 0 g4 29 (natsC (zero5)) (natsC (elemL v21)) (by with_unfolding_all rfl) (by with_unfolding_all rfl) (by with_unfolding_all rfl) (natsC_same zero5_length (elemL_length _)) (sizeN Try.sz5e _ (elemL_length _)) (natsC_one _) E10.out ?_); intro w11 T11; simp only [List.set_cons_zero] at T11; have E11 := Lib.hid T11; clear T11)
    | (with_reducible refine wpE_load (o := ⟨some 22, _, _, _, _, _⟩) rfl 29 (.tmp 8) rfl 1 g3 29 (natsC (elemL nk)) _ (by with_unfolding_all rfl) (by with_unfolding_all rfl) Try.underlying29 rfl (sizeN Try.sz5e _ (elemL_length _)) E11.out ?_))
  refine (C23.out _).mono ?_
  rintro e w12 ⟨rfl, b12⟩
  have E12 := Lib.hid (E11.out.call b12)
  clear b12 E11
  go_wp2_with (first
    | ((with_reducible refine wpE_alloc (o := ⟨some 10, _, _, _, _, _⟩) rfl 29 rfl (natsC (zero5)) Try.zero5e E12.out ?_); intro g5 w13 T13; have E13 := Lib.hid T13; clear T13)
    | ((with_reducible refine wpE_store (o := ⟨none, _, _, _, _, _⟩) rfl 29 (.tmp 10) (.tmp 23) rfl 0 g5 29 (natsC (zero5)) (natsC (elemL v23)) (by with_unfolding_all rfl) (by with_unfolding_all rfl) (by with_unfolding_all rfl) (natsC_same zero5_length (elemL_length _)) (sizeN Try.sz5e _ (elemL_length _)) (natsC_one _) E13.out ?_); intro w14 T14; simp only [List.set_cons_zero] at T14; have E14 := Lib.hid T14; clear T14))
  refine region_class _ E14.out.drew (by kernel_rfl) (by kernel_rfl) ?_
  refine q_run (by rfl) (v := .bool true) (fun W _ => by go_simp) ?_
  simp only [Act.put, List.setIfInBounds_toArray, List.set_cons_zero, List.set_cons_succ]
  refine q_run (by rfl) (v := .bool true) (fun W _ => by go_simp) ?_
  simp only [Act.put, List.setIfInBounds_toArray, List.set_cons_zero, List.set_cons_succ]
  refine qE_load (by rfl) _ (.tmp 9) rfl 1 g4 29 (natsC (elemL v21)) _ rfl rfl Try.underlying29 rfl (sizeN Try.sz5e _ (elemL_length _)) ?_
  simp only [Act.put, List.setIfInBounds_toArray, List.set_cons_zero, List.set_cons_succ]
  refine q_call (by rfl) 16 _ (fun W => by go_simp) (fun W hW => hW.calls (C27.out W)) ?_
  simp only [Act.put, List.setIfInBounds_toArray, List.set_cons_zero, List.set_cons_succ]
  refine qE_load (by rfl) _ (.tmp 6) rfl 3 g2 33 (natsC (digR 16 nk)) _ rfl rfl Try.underlying33 rfl (sizeN Try.sz16 _ (digR_length 16 _)) ?_
  simp only [Act.put, List.setIfInBounds_toArray, List.set_cons_zero, List.set_cons_succ]
  refine q_run (by rfl) (v := .int .u64 (n : Int)) (fun W _ => by go_simp) ?_
  simp only [Act.put, List.setIfInBounds_toArray, List.set_cons_zero, List.set_cons_succ]
  refine q_call (by rfl) 30 _ (fun W => by go_simp) (fun W hW => hW.calls (C30.out W)) ?_
  simp only [Act.put, List.setIfInBounds_toArray, List.set_cons_zero, List.set_cons_succ]
  refine q_call (by rfl) 17 _ (fun W => by go_simp) (fun W hW => hW.calls (C31.out W)) ?_
  simp only [Act.put, List.setIfInBounds_toArray, List.set_cons_zero, List.set_cons_succ]
  refine q_run (by rfl) (v := .bool true) (fun W _ => by have hq := Q32.out; have hg := Try.eqGuardKey; go_simp) ?_
  simp only [Act.put, List.setIfInBounds_toArray, List.set_cons_zero, List.set_cons_succ]
  refine q_run (by rfl) (v := .bool true) (fun W _ => by go_simp) ?_
  simp only [Act.put, List.setIfInBounds_toArray, List.set_cons_zero, List.set_cons_succ]
  refine q_run (by rfl) (v := .bool true) (fun W _ => by go_simp) ?_
  simp only [Act.put, List.setIfInBounds_toArray, List.set_cons_zero, List.set_cons_succ]
  refine qE_load (by rfl) _ (.tmp 10) rfl 0 g5 29 (natsC (elemL v23)) _ rfl rfl Try.underlying29 rfl (sizeN Try.sz5e _ (elemL_length _)) ?_
  simp only [Act.put, List.setIfInBounds_toArray, List.set_cons_zero, List.set_cons_succ]
  refine q_call (by rfl) 16 _ (fun W => by go_simp) (fun W hW => hW.calls (C36.out W)) ?_
  simp only [Act.put, List.setIfInBounds_toArray, List.set_cons_zero, List.set_cons_succ]
  refine qE_load (by rfl) _ (.tmp 6) rfl 3 g2 33 (natsC (digR 16 nk)) _ rfl rfl Try.underlying33 rfl (sizeN Try.sz16 _ (digR_length 16 _)) ?_
  simp only [Act.put, List.setIfInBounds_toArray, List.set_cons_zero, List.set_cons_succ]
  refine q_call (by rfl) 31 _ (fun W => by go_simp) (fun W hW => hW.calls (C38.out W)) ?_
  simp only [Act.put, List.setIfInBounds_toArray, List.set_cons_zero, List.set_cons_succ]
  refine q_call (by rfl) 17 _ (fun W => by go_simp) (fun W hW => hW.calls (C39.out W)) ?_
  simp only [Act.put, List.setIfInBounds_toArray, List.set_cons_zero, List.set_cons_succ]
  refine q_run (by rfl) (v := .bool true) (fun W _ => by have hq := Q40.out; have hg := Try.eqGuardKey; go_simp) ?_
  simp only [Act.put, List.setIfInBounds_toArray, List.set_cons_zero, List.set_cons_succ]
  refine q_run (by rfl) (v := .bool true) (fun W _ => by go_simp) ?_
  simp only [Act.put, List.setIfInBounds_toArray, List.set_cons_zero, List.set_cons_succ]
  refine q_run (by rfl) (v := .bool true) (fun W _ => by go_simp) ?_
  simp only [Act.put, List.setIfInBounds_toArray, List.set_cons_zero, List.set_cons_succ]
  refine wpQuiet_nil ?_
  intro w15 T15
  have E15 := Lib.hid T15
  clear T15 E14
  go_wp2_with fail
  go_ret
  exact E15.out.ret _
end Go.Proofs.Ytejingggfbmbjaa
