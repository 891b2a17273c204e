/-
  FieldReads, walked: the call returns true. Conditions: none beyond the law's own.
-/
import Derived.Test.YtejingggfbmbjaaFieldRefP
import Derived.Test.YtejingggfbmbjaaFieldLaws
namespace Go.Proofs.Ytejingggfbmbjaa
open Go.RowKit
set_option linter.unusedVariables false
set_option maxRecDepth 20000

set_option maxHeartbeats 4000000 in
theorem fieldReads_walk (w : World) (k : List UInt8) (hk : k.length = 32) (n : Nat) (hn : n < 18446744073709551616) :
    Calls Try.prog 3 #[keyV k, .int .u64 (n : Int)] w (RetV w (.bool true)) := by
  obtain ⟨nk, hnk⟩ : ∃ v, v = numK k := ⟨_, rfl⟩
  have bnk : nk < pF := by rw [hnk]; exact numK_lt k
  have Lk := Lib.hid hk
  have C12 : Hid (∀ w, Calls Try.prog 11 #[] w (RetV w (.bool true))) := fun w => awake_any w
  obtain ⟨ok, hok⟩ : ∃ r, r = decide (ofLowB k < pF) := ⟨_, rfl⟩
  have C15 : Hid (∀ w, Calls Try.prog 12 #[.agg (keyC (k))] w (RetV w (.tuple #[.agg (natsC (elemL nk)), .bool ok]))) := by rw [hnk, hok]; exact fun w => Of_any k hk w
  have C20 : Hid (∀ w, Calls Try.prog 13 #[.agg (keyC (k))] w (RetV w (.tuple #[.agg (natsC (digR 16 nk)), .bool ok]))) := by rw [hnk, hok]; exact fun w => refOf_any k hk w
  obtain ⟨v24, hv24⟩ : ∃ v, v = n := ⟨_, rfl⟩
  have bv24 : v24 < pF := by rw [hv24]; exact (by unfold pF; omega)
  have C24 : Hid (∀ w, Calls Try.prog 14 #[.int .u64 (n : Int)] w (RetV w (.agg (natsC (elemL v24))))) := by rw [hv24]; exact fun w => Small_any n (by omega) w
  obtain ⟨r26, hr26⟩ : ∃ r, r = (nk == 0) := ⟨_, rfl⟩
  have C26 : Hid (∀ w, Calls Try.prog 15 #[.agg (natsC (elemL nk))] w (RetV w (.bool r26))) := by rw [hr26]; exact fun w => IsZero_any nk bnk w
  obtain ⟨k35, hk35⟩ : ∃ v, v = lowB nk 32 := ⟨_, rfl⟩
  have Lk35 : Hid (k35.length = 32) := by show _ = _; rw [hk35]; exact lowB_length _ _
  have C35 : Hid (∀ w, Calls Try.prog 16 #[.agg (natsC (elemL nk))] w (RetV w (.agg (keyC (k35))))) := by rw [hk35]; exact fun w => Key_any nk bnk w
  obtain ⟨k37, hk37⟩ : ∃ v, v = lowB nk 32 := ⟨_, rfl⟩
  have Lk37 : Hid (k37.length = 32) := by show _ = _; rw [hk37]; exact lowB_length _ _
  have C37 : Hid (∀ w, Calls Try.prog 17 #[.agg (natsC (digR 16 nk))] w (RetV w (.agg (keyC (k37))))) := by rw [hk37]; exact fun w => refKey_any nk w
  have Q38 : Hid (∀ W, (Op.equalIn 10000 23 (.agg (keyC k35)) (.agg (keyC k37))).run Try.prog W = .ok true W) := fun W => by rw [Try.eqKeyIn k35 k37 Lk35.out Lk37.out W]; exact congrArg (fun v => Result.ok v W) (by rw [beq_iff_eq, hk35, hk37])
  obtain ⟨k42, hk42⟩ : ∃ v, v = lowB v24 32 := ⟨_, rfl⟩
  have Lk42 : Hid (k42.length = 32) := by show _ = _; rw [hk42]; exact lowB_length _ _
  have C42 : Hid (∀ w, Calls Try.prog 16 #[.agg (natsC (elemL v24))] w (RetV w (.agg (keyC (k42))))) := by rw [hk42]; exact fun w => Key_any v24 bv24 w
  obtain ⟨v44, hv44⟩ : ∃ v, v = n := ⟨_, rfl⟩
  have bv44 : v44 < pF := by rw [hv44]; exact (by unfold pF; omega)
  have C44 : Hid (∀ w, Calls Try.prog 18 #[.int .u64 (n : Int)] w (RetV w (.agg (natsC (digR 16 v44))))) := by rw [hv44]; exact fun w => refSmall_any n (by omega) w
  obtain ⟨k45, hk45⟩ : ∃ v, v = lowB v44 32 := ⟨_, rfl⟩
  have Lk45 : Hid (k45.length = 32) := by show _ = _; rw [hk45]; exact lowB_length _ _
  have C45 : Hid (∀ w, Calls Try.prog 17 #[.agg (natsC (digR 16 v44))] w (RetV w (.agg (keyC (k45))))) := by rw [hk45]; exact fun w => refKey_any v44 w
  have Q46 : Hid (∀ W, (Op.equalIn 10000 23 (.agg (keyC k42)) (.agg (keyC k45))).run Try.prog W = .ok true W) := fun W => by rw [Try.eqKeyIn k42 k45 Lk42.out Lk45.out W]; exact congrArg (fun v => Result.ok v W) (by rw [beq_iff_eq, hk42, hk45, hv24, hv44])
  have Q52 : Hid (∀ W, (Op.equalIn 10000 33 (.agg (natsC (digR 16 nk))) (.agg (natsC (zero16)))).run Try.prog W = .ok r26 W) := fun W => by rw [Try.eqNumIn _ _ (digR_length 16 _) zero16_length W]; exact congrArg (fun v => Result.ok v W) (by rw [hr26]; exact num_zero nk bnk)
  clear hnk bnk hk hn hok hv24 bv24 hr26 hk35 hk37 hk42 hv44 bv44 hk45
  have E0 := Lib.hid (Env.start w)
  go_enter Try.func3, Try.ntmps3
  go_wp2_with (first
    | ((with_reducible refine wpE_box (o := ⟨some 2, _, _, _, _, _⟩) rfl 23 (.tmp 0) rfl (keyC (k)) (by with_unfolding_all rfl) E0.out ?_); intro g1 w1 T1; have E1 := Lib.hid T1; clear T1))
  refine (C12.out _).mono ?_
  rintro e w2 ⟨rfl, b2⟩
  have E2 := Lib.hid (E1.out.call b2)
  clear b2 E1
  go_wp2_with (first
    | (with_reducible refine wpE_load (o := ⟨some 14, _, _, _, _, _⟩) rfl 23 (.tmp 2) rfl 0 g1 23 (keyC (k)) _ (by with_unfolding_all rfl) (by with_unfolding_all rfl) Try.underlying23 rfl (Try.sizeKey _ Lk.out) E2.out ?_))
  refine (C15.out _).mono ?_
  rintro e w3 ⟨rfl, b3⟩
  have E3 := Lib.hid (E2.out.call b3)
  clear b3 E2
  go_wp2_with (first
    | ((with_reducible refine wpE_alloc (o := ⟨some 6, _, _, _, _, _⟩) rfl 29 rfl (natsC (zero5)) Try.zero5e E3.out ?_); intro g2 w4 T4; have E4 := Lib.hid T4; clear T4)
    | ((with_reducible refine wpE_store (o := ⟨none, _, _, _, _, _⟩) rfl 29 (.tmp 6) (.tmp 16) rfl 0 g2 29 (natsC (zero5)) (natsC (elemL nk)) (by with_unfolding_all rfl) (by with_unfolding_all rfl) (by with_unfolding_all rfl) (natsC_same zero5_length (elemL_length _)) (sizeN Try.sz5e _ (elemL_length _)) (natsC_one _) E4.out ?_); intro w5 T5; simp only [List.set_cons_zero] at T5; have E5 := Lib.hid T5; clear T5)
    | (with_reducible refine wpE_load (o := ⟨some 19, _, _, _, _, _⟩) rfl 23 (.tmp 2) rfl 1 g1 23 (keyC (k)) _ (by with_unfolding_all rfl) (by with_unfolding_all rfl) Try.underlying23 rfl (Try.sizeKey _ Lk.out) E5.out ?_))
  refine (C20.out _).mono ?_
  rintro e w6 ⟨rfl, b6⟩
  have E6 := Lib.hid (E5.out.call b6)
  clear b6 E5
  go_wp2_with (first
    | ((with_reducible refine wpE_alloc (o := ⟨some 8, _, _, _, _, _⟩) rfl 33 rfl (natsC (zero16)) Try.zero16 E6.out ?_); intro g3 w7 T7; have E7 := Lib.hid T7; clear T7)
    | ((with_reducible refine wpE_store (o := ⟨none, _, _, _, _, _⟩) rfl 33 (.tmp 8) (.tmp 21) rfl 0 g3 33 (natsC (zero16)) (natsC (digR 16 nk)) (by with_unfolding_all rfl) (by with_unfolding_all rfl) (by with_unfolding_all rfl) (natsC_same zero16_length (digR_length 16 _)) (sizeN Try.sz16 _ (digR_length 16 _)) (natsC_one _) E7.out ?_); intro w8 T8; simp only [List.set_cons_zero] at T8; have E8 := Lib.hid T8; clear T8))
  refine (C24.out _).mono ?_
  rintro e w9 ⟨rfl, b9⟩
  have E9 := Lib.hid (E8.out.call b9)
  clear b9 E8
  go_wp2_with (first
    | ((with_reducible refine wpE_alloc (o := ⟨some 10, _, _, _, _, _⟩) rfl 29 rfl (natsC (zero5)) Try.zero5e E9.out ?_); intro g4 w10 T10; have E10 := Lib.hid T10; clear T10)
    | ((with_reducible refine wpE_store (o := ⟨none, _, _, _, _, _⟩) rfl 29 (.tmp 10) (.tmp 24) rfl 0 g4 29 (natsC (zero5)) (natsC (elemL v24)) (by with_unfolding_all rfl) (by with_unfolding_all rfl) (by with_unfolding_all rfl) (natsC_same zero5_length (elemL_length _)) (sizeN Try.sz5e _ (elemL_length _)) (natsC_one _) E10.out ?_); intro w11 T11; simp only [List.set_cons_zero] at T11; have E11 := Lib.hid T11; clear T11)
    | (with_reducible refine wpE_load (o := ⟨some 25, _, _, _, _, _⟩) rfl 29 (.tmp 6) rfl 2 g2 29 (natsC (elemL nk)) _ (by with_unfolding_all rfl) (by with_unfolding_all rfl) Try.underlying29 rfl (sizeN Try.sz5e _ (elemL_length _)) E11.out ?_))
  refine (C26.out _).mono ?_
  rintro e w12 ⟨rfl, b12⟩
  have E12 := Lib.hid (E11.out.call b12)
  clear b12 E11
  go_wp2_with fail
  refine region_class _ E12.out.drew (by kernel_rfl) (by kernel_rfl) ?_
  refine q_run (by rfl) (v := .bool true) (fun W _ => by go_simp) ?_
  simp only [Act.put, List.setIfInBounds_toArray, List.set_cons_zero, List.set_cons_succ]
  refine q_run (by rfl) (v := .bool true) (fun W _ => by go_simp) ?_
  simp only [Act.put, List.setIfInBounds_toArray, List.set_cons_zero, List.set_cons_succ]
  refine q_run (by rfl) (v := .bool ok) (fun W _ => by go_simp) ?_
  simp only [Act.put, List.setIfInBounds_toArray, List.set_cons_zero, List.set_cons_succ]
  refine q_run (by rfl) (v := .bool ok) (fun W _ => by go_simp) ?_
  simp only [Act.put, List.setIfInBounds_toArray, List.set_cons_zero, List.set_cons_succ]
  refine q_run (by rfl) (v := .bool true) (fun W _ => by go_simp) ?_
  simp only [Act.put, List.setIfInBounds_toArray, List.set_cons_zero, List.set_cons_succ]
  refine q_run (by rfl) (v := .bool true) (fun W _ => by go_simp) ?_
  simp only [Act.put, List.setIfInBounds_toArray, List.set_cons_zero, List.set_cons_succ]
  refine q_run (by rfl) (v := .bool true) (fun W _ => by go_simp) ?_
  simp only [Act.put, List.setIfInBounds_toArray, List.set_cons_zero, List.set_cons_succ]
  refine qE_load (by rfl) _ (.tmp 6) rfl 2 g2 29 (natsC (elemL nk)) _ rfl rfl Try.underlying29 rfl (sizeN Try.sz5e _ (elemL_length _)) ?_
  simp only [Act.put, List.setIfInBounds_toArray, List.set_cons_zero, List.set_cons_succ]
  refine q_call (by rfl) 16 _ (fun W => by go_simp) (fun W hW => hW.calls (C35.out W)) ?_
  simp only [Act.put, List.setIfInBounds_toArray, List.set_cons_zero, List.set_cons_succ]
  refine qE_load (by rfl) _ (.tmp 8) rfl 1 g3 33 (natsC (digR 16 nk)) _ rfl rfl Try.underlying33 rfl (sizeN Try.sz16 _ (digR_length 16 _)) ?_
  simp only [Act.put, List.setIfInBounds_toArray, List.set_cons_zero, List.set_cons_succ]
  refine q_call (by rfl) 17 _ (fun W => by go_simp) (fun W hW => hW.calls (C37.out W)) ?_
  simp only [Act.put, List.setIfInBounds_toArray, List.set_cons_zero, List.set_cons_succ]
  refine q_run (by rfl) (v := .bool true) (fun W _ => by have hq := Q38.out; have hg := Try.eqGuardKey; go_simp) ?_
  simp only [Act.put, List.setIfInBounds_toArray, List.set_cons_zero, List.set_cons_succ]
  refine q_run (by rfl) (v := .bool true) (fun W _ => by go_simp) ?_
  simp only [Act.put, List.setIfInBounds_toArray, List.set_cons_zero, List.set_cons_succ]
  refine q_run (by rfl) (v := .bool true) (fun W _ => by go_simp) ?_
  simp only [Act.put, List.setIfInBounds_toArray, List.set_cons_zero, List.set_cons_succ]
  refine qE_load (by rfl) _ (.tmp 10) rfl 0 g4 29 (natsC (elemL v24)) _ rfl rfl Try.underlying29 rfl (sizeN Try.sz5e _ (elemL_length _)) ?_
  simp only [Act.put, List.setIfInBounds_toArray, List.set_cons_zero, List.set_cons_succ]
  refine q_call (by rfl) 16 _ (fun W => by go_simp) (fun W hW => hW.calls (C42.out W)) ?_
  simp only [Act.put, List.setIfInBounds_toArray, List.set_cons_zero, List.set_cons_succ]
  refine q_run (by rfl) (v := .int .u64 (n : Int)) (fun W _ => by go_simp) ?_
  simp only [Act.put, List.setIfInBounds_toArray, List.set_cons_zero, List.set_cons_succ]
  refine q_call (by rfl) 18 _ (fun W => by go_simp) (fun W hW => hW.calls (C44.out W)) ?_
  simp only [Act.put, List.setIfInBounds_toArray, List.set_cons_zero, List.set_cons_succ]
  refine q_call (by rfl) 17 _ (fun W => by go_simp) (fun W hW => hW.calls (C45.out W)) ?_
  simp only [Act.put, List.setIfInBounds_toArray, List.set_cons_zero, List.set_cons_succ]
  refine q_run (by rfl) (v := .bool true) (fun W _ => by have hq := Q46.out; have hg := Try.eqGuardKey; go_simp) ?_
  simp only [Act.put, List.setIfInBounds_toArray, List.set_cons_zero, List.set_cons_succ]
  refine q_run (by rfl) (v := .bool true) (fun W _ => by go_simp) ?_
  simp only [Act.put, List.setIfInBounds_toArray, List.set_cons_zero, List.set_cons_succ]
  refine q_run (by rfl) (v := .bool true) (fun W _ => by go_simp) ?_
  simp only [Act.put, List.setIfInBounds_toArray, List.set_cons_zero, List.set_cons_succ]
  refine q_run (by rfl) (v := .bool r26) (fun W _ => by go_simp) ?_
  simp only [Act.put, List.setIfInBounds_toArray, List.set_cons_zero, List.set_cons_succ]
  refine qE_load (by rfl) _ (.tmp 8) rfl 1 g3 33 (natsC (digR 16 nk)) _ rfl rfl Try.underlying33 rfl (sizeN Try.sz16 _ (digR_length 16 _)) ?_
  simp only [Act.put, List.setIfInBounds_toArray, List.set_cons_zero, List.set_cons_succ]
  refine q_run (by rfl) (v := .agg (natsC (zero16))) (fun W _ => by have hz := zero16V; go_simp) ?_
  simp only [Act.put, List.setIfInBounds_toArray, List.set_cons_zero, List.set_cons_succ]
  refine q_run (by rfl) (v := .bool r26) (fun W _ => by have hq := Q52.out; have hg := Try.eqGuardNum; go_simp) ?_
  simp only [Act.put, List.setIfInBounds_toArray, List.set_cons_zero, List.set_cons_succ]
  refine q_run (by rfl) (v := .bool true) (fun W _ => by go_simp) ?_
  simp only [Act.put, List.setIfInBounds_toArray, List.set_cons_zero, List.set_cons_succ]
  refine q_run (by rfl) (v := .bool true) (fun W _ => by go_simp) ?_
  simp only [Act.put, List.setIfInBounds_toArray, List.set_cons_zero, List.set_cons_succ]
  refine q_run (by rfl) (v := .bool true) (fun W _ => by go_simp) ?_
  simp only [Act.put, List.setIfInBounds_toArray, List.set_cons_zero, List.set_cons_succ]
  refine wpQuiet_nil ?_
  intro w13 T13
  have E13 := Lib.hid T13
  clear T13 E12
  go_wp2_with fail
  go_ret
  exact E13.out.ret _
end Go.Proofs.Ytejingggfbmbjaa
