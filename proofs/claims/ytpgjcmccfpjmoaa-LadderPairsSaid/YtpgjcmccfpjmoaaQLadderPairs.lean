/-
  LadderPairs: for every input the call returns true, and each argument reads as it read before. Conditions: none beyond the given statement's own.
-/
import Derived.Test.YtpgjcmccfpjmoaaQLadAJ
import Derived.Test.YtpgjcmccfpjmoaaQLadAP
import Derived.Test.YtpgjcmccfpjmoaaQLadAO
import Derived.Test.YtpgjcmccfpjmoaaRows
import Derived.OpenShut
import Derived.ShutString
import Derived.ChangeOld
section
namespace Go.Proofs.Ytpgjcmccfpjmoaa
open Go.RowKit
set_option linter.unusedVariables false
set_option maxRecDepth 20000

set_option maxHeartbeats 4000000 in
theorem ladderPairs_walk (w : World) (i : List UInt8) (hi : i.length = 32) (j : List UInt8) (hj : j.length = 32) :
    Calls Try.prog 4 #[keyV i, keyV j] w (RetV w (.bool true)) := by
  have Li := Lib.hid hi
  clear hi
  have Lj := Lib.hid hj
  clear hj
  obtain ⟨pi, hpi⟩ : ∃ v, v = rawK i nineK := ⟨_, rfl⟩
  have Lpi : Hid (pi.length = 32) := by show _ = _; rw [hpi]; exact rawK_length _ _
  have Hpi := Lib.hid hpi
  obtain ⟨ks, hks⟩ : ∃ v, v = multK i j := ⟨_, rfl⟩
  obtain ⟨ms, hms⟩ : ∃ v, v = multE i j := ⟨_, rfl⟩
  have Lks : Hid (ks.length = 32) := by show _ = _; rw [hks]; exact multK_length _ _
  have HS : Hid (multK i j = ks ∧ multE i j = ms) := ⟨hks.symm, hms.symm⟩
  clear hpi hks hms
  have C14 : Hid (∀ w, Calls Try.prog 9 #[] w (RetV w (.bool true))) := fun w => ladderAwake_any w
  have C34 : Hid (∀ w, Calls Try.prog 13 #[.agg (keyC (i)), .agg (keyC (j))] w (RetV w (.tuple #[.agg (keyC (ks)), .int .i64 ms]))) := fun w => by have h := refMult_any i j Li.out Lj.out w; rwa [HS.out.1, HS.out.2] at h
  have Q41 : Hid (∀ W, (Op.equalIn 10000 23 (.agg (keyC ks)) (.agg (keyC ks))).run Try.prog W = .ok true W) := fun W => by rw [Try.eqKeyIn ks ks Lks.out Lks.out W]; exact congrArg (fun v => Result.ok v W) (by rw [beq_self_eq_true])
  have C51 : Hid (∀ w, Calls Try.prog 20 #[.agg (keyC (i))] w (RetV w (.agg (keyC (pi))))) := fun w => by have h := refPublic_any i Li.out w; rwa [← Hpi.out] at h
  have Q52 : Hid (∀ W, (Op.equalIn 10000 23 (.agg (keyC pi)) (.agg (keyC pi))).run Try.prog W = .ok true W) := fun W => by rw [Try.eqKeyIn pi pi Lpi.out Lpi.out W]; exact congrArg (fun v => Result.ok v W) (by rw [beq_self_eq_true])
  have Q57 : Hid (∀ W, (Op.equalIn 10000 23 (.agg (keyC pi)) (.agg (keyC pi))).run Try.prog W = .ok true W) := fun W => by rw [Try.eqKeyIn pi pi Lpi.out Lpi.out W]; exact congrArg (fun v => Result.ok v W) (by rw [beq_self_eq_true])
  have Q62 : Hid (∀ W, (Op.equalIn 10000 23 (.agg (keyC i)) (.agg (keyC i))).run Try.prog W = .ok true W) := fun W => by rw [Try.eqKeyIn i i Li.out Li.out W]; exact congrArg (fun v => Result.ok v W) (by rw [beq_self_eq_true])
  have C67 : Hid (∀ w, Calls Try.prog 21 #[.agg (keyC (i))] w (RetV w (.agg (keyC (pi))))) := fun w => by have h := Public_any i Li.out w; rwa [← Hpi.out] at h
  have Q68 : Hid (∀ W, (Op.equalIn 10000 23 (.agg (keyC pi)) (.agg (keyC pi))).run Try.prog W = .ok true W) := fun W => by rw [Try.eqKeyIn pi pi Lpi.out Lpi.out W]; exact congrArg (fun v => Result.ok v W) (by rw [beq_self_eq_true])
  have E0 := Lib.hid (Env.start w)
  go_enter Try.func4, Try.ntmps4
  go_wp2_with (first
    | ((with_reducible refine wpE_box (o := ⟨some 2, _, _, _, _, _⟩) rfl 23 (.tmp 0) rfl (keyC (i)) (by with_unfolding_all rfl) E0.out ?_); intro g1 w1 T1; have E1 := Lib.hid T1; clear T1)
    | ((with_reducible refine wpE_box (o := ⟨some 3, _, _, _, _, _⟩) rfl 23 (.tmp 1) rfl (keyC (j)) (by with_unfolding_all rfl) E1.out ?_); intro g2 w2 T2; have E2 := Lib.hid T2; clear T2))
  refine (C14.out _).mono ?_
  rintro e w3 ⟨rfl, b3⟩
  have E3 := Lib.hid (E2.out.call b3)
  clear b3 E2
  go_wp2_with (first
    | (with_reducible refine wpE_load (o := ⟨some 15, _, _, _, _, _⟩) rfl 23 (.tmp 2) rfl 1 g1 23 (keyC (i)) _ (by with_unfolding_all rfl) (by with_unfolding_all rfl) Try.underlying23 rfl (Try.sizeKey _ Li.out) E3.out ?_))
  refine (newPair_env w _ _ i Li.out E3.out).mono ?_
  rintro e w4 ⟨b16, rfl, T4⟩
  have E4 := Lib.hid T4
  clear T4 E3
  go_wp2_with (first
    | (with_reducible refine wpE_load (o := ⟨some 21, _, _, _, _, _⟩) rfl 23 (.tmp 3) rfl 1 g2 23 (keyC (j)) _ (by with_unfolding_all rfl) (by with_unfolding_all rfl) Try.underlying23 rfl (Try.sizeKey _ Lj.out) E4.out ?_))
  have hcall := pairShared_env w _ _ 0 b16 i zeroKey j 0 0 Li.out Lj.out E4.out rfl
  rw [HS.out.1, HS.out.2] at hcall
  refine hcall.mono ?_
  clear hcall
  rintro e w5 ⟨rfl, T5⟩
  have E5 := Lib.hid T5
  clear T5 E4
  go_wp2_with (first
    | ((with_reducible refine wpE_alloc (o := ⟨some 7, _, _, _, _, _⟩) rfl 23 rfl (keyC (zeroKey)) Try.zeroK E5.out ?_); intro g3 w6 T6; have E6 := Lib.hid T6; clear T6)
    | ((with_reducible refine wpE_store (o := ⟨none, _, _, _, _, _⟩) rfl 23 (.tmp 7) (.tmp 23) rfl 0 g3 23 (keyC (zeroKey)) (keyC (ks)) (by with_unfolding_all rfl) (by with_unfolding_all rfl) (by with_unfolding_all rfl) (keyC_same zeroKey_length Lks.out) (Try.sizeKey _ Lks.out) (keyC_one _) E6.out ?_); intro w7 T7; simp only [List.set_cons_zero] at T7; have E7 := Lib.hid T7; clear T7))
  have hcall := pairPublic_first w _ _ 1 b16 i zeroKey Li.out zeroKey_length E7.out rfl
  rw [← Hpi.out] at hcall
  refine hcall.mono ?_
  clear hcall
  rintro e w8 ⟨rfl, T8⟩
  simp only [List.set_cons_zero, List.set_cons_succ] at T8
  have E8 := Lib.hid T8
  clear T8 E7
  go_wp2_with (first
    | ((with_reducible refine wpE_alloc (o := ⟨some 9, _, _, _, _, _⟩) rfl 23 rfl (keyC (zeroKey)) Try.zeroK E8.out ?_); intro g4 w9 T9; have E9 := Lib.hid T9; clear T9)
    | ((with_reducible refine wpE_store (o := ⟨none, _, _, _, _, _⟩) rfl 23 (.tmp 9) (.tmp 26) rfl 0 g4 23 (keyC (zeroKey)) (keyC (pi)) (by with_unfolding_all rfl) (by with_unfolding_all rfl) (by with_unfolding_all rfl) (keyC_same zeroKey_length Lpi.out) (Try.sizeKey _ Lpi.out) (keyC_one _) E9.out ?_); intro w10 T10; simp only [List.set_cons_zero] at T10; have E10 := Lib.hid T10; clear T10))
  have hcall := pairPublic_again w _ _ 2 b16 i pi Li.out Lpi.out E10.out rfl
  refine hcall.mono ?_
  clear hcall
  rintro e w11 ⟨rfl, T11⟩
  have E11 := Lib.hid T11
  clear T11 E10
  go_wp2_with (first
    | ((with_reducible refine wpE_alloc (o := ⟨some 10, _, _, _, _, _⟩) rfl 23 rfl (keyC (zeroKey)) Try.zeroK E11.out ?_); intro g5 w12 T12; have E12 := Lib.hid T12; clear T12)
    | ((with_reducible refine wpE_store (o := ⟨none, _, _, _, _, _⟩) rfl 23 (.tmp 10) (.tmp 28) rfl 0 g5 23 (keyC (zeroKey)) (keyC (pi)) (by with_unfolding_all rfl) (by with_unfolding_all rfl) (by with_unfolding_all rfl) (keyC_same zeroKey_length Lpi.out) (Try.sizeKey _ Lpi.out) (keyC_one _) E12.out ?_); intro w13 T13; simp only [List.set_cons_zero] at T13; have E13 := Lib.hid T13; clear T13))
  have hcall := pairSecret_env w _ _ 3 b16 i pi 1 0 Li.out E13.out rfl
  refine hcall.mono ?_
  clear hcall
  rintro e w14 ⟨rfl, T14⟩
  have E14 := Lib.hid T14
  clear T14 E13
  go_wp2_with (first
    | ((with_reducible refine wpE_alloc (o := ⟨some 11, _, _, _, _, _⟩) rfl 23 rfl (keyC (zeroKey)) Try.zeroK E14.out ?_); intro g6 w15 T15; have E15 := Lib.hid T15; clear T15)
    | ((with_reducible refine wpE_store (o := ⟨none, _, _, _, _, _⟩) rfl 23 (.tmp 11) (.tmp 30) rfl 0 g6 23 (keyC (zeroKey)) (keyC (i)) (by with_unfolding_all rfl) (by with_unfolding_all rfl) (by with_unfolding_all rfl) (keyC_same zeroKey_length Li.out) (Try.sizeKey _ Li.out) (keyC_one _) E15.out ?_); intro w16 T16; simp only [List.set_cons_zero] at T16; have E16 := Lib.hid T16; clear T16)
    | (with_reducible refine wpE_load (o := ⟨some 32, _, _, _, _, _⟩) rfl 23 (.tmp 2) rfl 6 g1 23 (keyC (i)) _ (by with_unfolding_all rfl) (by with_unfolding_all rfl) Try.underlying23 rfl (Try.sizeKey _ Li.out) E16.out ?_)
    | (with_reducible refine wpE_load (o := ⟨some 33, _, _, _, _, _⟩) rfl 23 (.tmp 3) rfl 5 g2 23 (keyC (j)) _ (by with_unfolding_all rfl) (by with_unfolding_all rfl) Try.underlying23 rfl (Try.sizeKey _ Lj.out) E16.out ?_))
  refine (C34.out _).mono ?_
  rintro e w17 ⟨rfl, b17⟩
  have E17 := Lib.hid (E16.out.call b17)
  clear b17 E16
  go_wp2_with (first
    | ((with_reducible refine wpE_alloc (o := ⟨some 12, _, _, _, _, _⟩) rfl 23 rfl (keyC (zeroKey)) Try.zeroK E17.out ?_); intro g7 w18 T18; have E18 := Lib.hid T18; clear T18)
    | ((with_reducible refine wpE_store (o := ⟨none, _, _, _, _, _⟩) rfl 23 (.tmp 12) (.tmp 35) rfl 0 g7 23 (keyC (zeroKey)) (keyC (ks)) (by with_unfolding_all rfl) (by with_unfolding_all rfl) (by with_unfolding_all rfl) (keyC_same zeroKey_length Lks.out) (Try.sizeKey _ Lks.out) (keyC_one _) E18.out ?_); intro w19 T19; simp only [List.set_cons_zero] at T19; have E19 := Lib.hid T19; clear T19))
  refine region_class _ E19.out.drew (by kernel_rfl) (by kernel_rfl) ?_
  refine q_run (by rfl) (v := .bool true) (fun W _ => by go_simp) ?_
  simp only [Act.put, List.setIfInBounds_toArray, List.set_cons_zero, List.set_cons_succ]
  refine q_run (by rfl) (v := .bool true) (fun W _ => by go_simp) ?_
  simp only [Act.put, List.setIfInBounds_toArray, List.set_cons_zero, List.set_cons_succ]
  refine qE_load (by rfl) _ (.tmp 7) rfl 4 g3 23 (keyC (ks)) _ rfl rfl Try.underlying23 rfl (Try.sizeKey _ Lks.out) ?_
  simp only [Act.put, List.setIfInBounds_toArray, List.set_cons_zero, List.set_cons_succ]
  refine qE_load (by rfl) _ (.tmp 12) rfl 0 g7 23 (keyC (ks)) _ rfl rfl Try.underlying23 rfl (Try.sizeKey _ Lks.out) ?_
  simp only [Act.put, List.setIfInBounds_toArray, List.set_cons_zero, List.set_cons_succ]
  refine q_run (by rfl) (v := .bool true) (fun W _ => by have hq := Q41.out; have hg := Try.eqGuardKey; go_simp) ?_
  simp only [Act.put, List.setIfInBounds_toArray, List.set_cons_zero, List.set_cons_succ]
  refine q_run (by rfl) (v := .bool true) (fun W _ => by go_simp) ?_
  simp only [Act.put, List.setIfInBounds_toArray, List.set_cons_zero, List.set_cons_succ]
  refine q_run (by rfl) (v := .bool true) (fun W _ => by go_simp) ?_
  simp only [Act.put, List.setIfInBounds_toArray, List.set_cons_zero, List.set_cons_succ]
  refine q_run (by rfl) (v := .int .i64 ms) (fun W _ => by go_simp) ?_
  simp only [Act.put, List.setIfInBounds_toArray, List.set_cons_zero, List.set_cons_succ]
  refine q_run (by rfl) (v := .int .i64 ms) (fun W _ => by go_simp) ?_
  simp only [Act.put, List.setIfInBounds_toArray, List.set_cons_zero, List.set_cons_succ]
  refine q_run (by rfl) (v := .bool true) (fun W _ => by go_simp) ?_
  simp only [Act.put, List.setIfInBounds_toArray, List.set_cons_zero, List.set_cons_succ]
  refine q_run (by rfl) (v := .bool true) (fun W _ => by go_simp) ?_
  simp only [Act.put, List.setIfInBounds_toArray, List.set_cons_zero, List.set_cons_succ]
  refine q_run (by rfl) (v := .bool true) (fun W _ => by go_simp) ?_
  simp only [Act.put, List.setIfInBounds_toArray, List.set_cons_zero, List.set_cons_succ]
  refine qE_load (by rfl) _ (.tmp 9) rfl 3 g4 23 (keyC (pi)) _ rfl rfl Try.underlying23 rfl (Try.sizeKey _ Lpi.out) ?_
  simp only [Act.put, List.setIfInBounds_toArray, List.set_cons_zero, List.set_cons_succ]
  refine qE_load (by rfl) _ (.tmp 2) rfl 7 g1 23 (keyC (i)) _ rfl rfl Try.underlying23 rfl (Try.sizeKey _ Li.out) ?_
  simp only [Act.put, List.setIfInBounds_toArray, List.set_cons_zero, List.set_cons_succ]
  refine q_call (by rfl) 20 _ (fun W => by go_simp) (fun W hW => hW.calls (C51.out W)) ?_
  simp only [Act.put, List.setIfInBounds_toArray, List.set_cons_zero, List.set_cons_succ]
  refine q_run (by rfl) (v := .bool true) (fun W _ => by have hq := Q52.out; have hg := Try.eqGuardKey; go_simp) ?_
  simp only [Act.put, List.setIfInBounds_toArray, List.set_cons_zero, List.set_cons_succ]
  refine q_run (by rfl) (v := .bool true) (fun W _ => by go_simp) ?_
  simp only [Act.put, List.setIfInBounds_toArray, List.set_cons_zero, List.set_cons_succ]
  refine q_run (by rfl) (v := .bool true) (fun W _ => by go_simp) ?_
  simp only [Act.put, List.setIfInBounds_toArray, List.set_cons_zero, List.set_cons_succ]
  refine qE_load (by rfl) _ (.tmp 9) rfl 3 g4 23 (keyC (pi)) _ rfl rfl Try.underlying23 rfl (Try.sizeKey _ Lpi.out) ?_
  simp only [Act.put, List.setIfInBounds_toArray, List.set_cons_zero, List.set_cons_succ]
  refine qE_load (by rfl) _ (.tmp 10) rfl 2 g5 23 (keyC (pi)) _ rfl rfl Try.underlying23 rfl (Try.sizeKey _ Lpi.out) ?_
  simp only [Act.put, List.setIfInBounds_toArray, List.set_cons_zero, List.set_cons_succ]
  refine q_run (by rfl) (v := .bool true) (fun W _ => by have hq := Q57.out; have hg := Try.eqGuardKey; go_simp) ?_
  simp only [Act.put, List.setIfInBounds_toArray, List.set_cons_zero, List.set_cons_succ]
  refine q_run (by rfl) (v := .bool true) (fun W _ => by go_simp) ?_
  simp only [Act.put, List.setIfInBounds_toArray, List.set_cons_zero, List.set_cons_succ]
  refine q_run (by rfl) (v := .bool true) (fun W _ => by go_simp) ?_
  simp only [Act.put, List.setIfInBounds_toArray, List.set_cons_zero, List.set_cons_succ]
  refine qE_load (by rfl) _ (.tmp 11) rfl 1 g6 23 (keyC (i)) _ rfl rfl Try.underlying23 rfl (Try.sizeKey _ Li.out) ?_
  simp only [Act.put, List.setIfInBounds_toArray, List.set_cons_zero, List.set_cons_succ]
  refine qE_load (by rfl) _ (.tmp 2) rfl 7 g1 23 (keyC (i)) _ rfl rfl Try.underlying23 rfl (Try.sizeKey _ Li.out) ?_
  simp only [Act.put, List.setIfInBounds_toArray, List.set_cons_zero, List.set_cons_succ]
  refine q_run (by rfl) (v := .bool true) (fun W _ => by have hq := Q62.out; have hg := Try.eqGuardKey; go_simp) ?_
  simp only [Act.put, List.setIfInBounds_toArray, List.set_cons_zero, List.set_cons_succ]
  refine q_run (by rfl) (v := .bool true) (fun W _ => by go_simp) ?_
  simp only [Act.put, List.setIfInBounds_toArray, List.set_cons_zero, List.set_cons_succ]
  refine q_run (by rfl) (v := .bool true) (fun W _ => by go_simp) ?_
  simp only [Act.put, List.setIfInBounds_toArray, List.set_cons_zero, List.set_cons_succ]
  refine qE_load (by rfl) _ (.tmp 9) rfl 3 g4 23 (keyC (pi)) _ rfl rfl Try.underlying23 rfl (Try.sizeKey _ Lpi.out) ?_
  simp only [Act.put, List.setIfInBounds_toArray, List.set_cons_zero, List.set_cons_succ]
  refine qE_load (by rfl) _ (.tmp 2) rfl 7 g1 23 (keyC (i)) _ rfl rfl Try.underlying23 rfl (Try.sizeKey _ Li.out) ?_
  simp only [Act.put, List.setIfInBounds_toArray, List.set_cons_zero, List.set_cons_succ]
  refine q_call (by rfl) 21 _ (fun W => by go_simp) (fun W hW => hW.calls (C67.out W)) ?_
  simp only [Act.put, List.setIfInBounds_toArray, List.set_cons_zero, List.set_cons_succ]
  refine q_run (by rfl) (v := .bool true) (fun W _ => by have hq := Q68.out; have hg := Try.eqGuardKey; go_simp) ?_
  simp only [Act.put, List.setIfInBounds_toArray, List.set_cons_zero, List.set_cons_succ]
  refine q_run (by rfl) (v := .bool true) (fun W _ => by go_simp) ?_
  simp only [Act.put, List.setIfInBounds_toArray, List.set_cons_zero, List.set_cons_succ]
  refine q_run (by rfl) (v := .bool true) (fun W _ => by go_simp) ?_
  simp only [Act.put, List.setIfInBounds_toArray, List.set_cons_zero, List.set_cons_succ]
  refine wpQuiet_nil ?_
  intro w20 T20
  have E20 := Lib.hid T20
  clear T20 E19
  go_wp2_with fail
  go_ret
  exact E20.out.ret _
end Go.Proofs.Ytpgjcmccfpjmoaa
end
section
namespace Go.Proofs.Ytpgjcmccfpjmoaa.ladderPairs
open Go.ChangeShapes Go.WideShapes Go.ChangeAt Go.RowKit
open Go.ChangeMaps (open_string shut_string)
set_option linter.unusedVariables false

theorem own : ownKnob Try.prog.godebug = none := by kernel_rfl
theorem laidOut : laidOutB Try.prog = true := by kernel_rfl

set_option maxRecDepth 100000 in
theorem lifted (os : Os) (started : os.Started) (H : Type) (enc : TypeId × Value → H) :
    ReturnsInHanded {} Try.checked os 4 .any (Rows.ladderPairsSpec.pre6 enc Try.prog Try.f4 Rows.ladderPairsRow.domain false) (Rows.ladderPairsSpec.post enc Try.prog Try.f4 false true false false) := by
  refine returnsInHanded_of_change (C := Try.checked) own started (by kernel_rfl) Try.func4
    (ChangeSpec.witness6 (enc := enc) (C := Try.checked) false ⟨#[], #[.agg (List.replicate 32 (Value.int .u8 0)).toArray, .agg (List.replicate 32 (Value.int .u8 0)).toArray], []⟩ 8 (by kernel_rfl) (by kernel_rfl) (by kernel_rfl) (by kernel_rfl)) ?_
  intro W base args ds gs before hval0 hW hcnd _
  have hval : ∀ (j : Nat) t v, Try.f4.params[j]? = some t → args[j]? = some v → Value.okWide Try.prog W .any base t v := hval0
  have hW' := hW
  obtain ⟨p, q, hA0, hV, rfl, hfz, hnd⟩ := hW
  have hA : DataW.TrodAll enc Try.prog W 0 (fun _ => true) true Try.f4.params.toList args.toList ds p := hA0
  rw [Try.params4] at hA hval
  obtain ⟨v0, vs0, d0, ds0, p0, q0, hargs, rfl, rfl, h0, r0⟩ := trodAll_cons hA
  obtain ⟨v1, vs1, d1, ds1, p1, q1, rfl, rfl, rfl, h1, r1⟩ := trodAll_cons r0
  obtain ⟨rfl, rfl, rfl⟩ := trodAll_nil r1
  obtain rfl : args = #[v0, v1] := by cases args; simp_all
  obtain ⟨rfl, rfl⟩ := trodVars_none hV
  have k0 := h0
  have lt0 : ∀ x ∈ p0, x.block < W.heap.size := by obtain ⟨m, hm⟩ := k0; exact DataW.trod_lt m _ _ _ hm
  obtain ⟨l0, rfl, w0⟩ := open_key Try.underlying23 Try.underlying5 (by kernel_rfl) (by kernel_rfl) (hval 0 23 v0 rfl rfl) h0
  have k1 := h1
  have lt1 : ∀ x ∈ p1, x.block < W.heap.size := by obtain ⟨m, hm⟩ := k1; exact DataW.trod_lt m _ _ _ hm
  obtain ⟨l1, rfl, w1⟩ := open_key Try.underlying23 Try.underlying5 (by kernel_rfl) (by kernel_rfl) (hval 1 23 v1 rfl rfl) h1
  clear hA0 hval0
  refine (ladderPairs_walk W l0 w0 l1 w1).mono fun e W' ⟨he, bel⟩ => ?_
  subst he
  exact ⟨_, rfl, _, _, _, [], _, [], hW', trodAll_mk1 (shut_bool Try.underlying4 _), (trodAll_cons_mk (Below.trod laidOut (by kernel_rfl) (of_decide_eq_true (by kernel_rfl)) k0 bel lt0) (trodAll_cons_mk (Below.trod laidOut (by kernel_rfl) (of_decide_eq_true (by kernel_rfl)) k1 bel lt1) trodAll_mk0)), rfl, bel.frame _, fun h => by cases h⟩

theorem over : Rows.ladderPairsRow.holds Try.pinned (OpenSpec.ofChange Rows.ladderPairsSpec) :=
  OpenClaim.holds_of_wide 4 Try.f4 rfl rfl rfl rfl rfl rfl rfl ⟨rfl, rfl, rfl, rfl, rfl⟩ rfl rfl rfl rfl rfl (by kernel_rfl) Try.func4 (by kernel_rfl)
    (of_decide_eq_true (by kernel_rfl)) (by unfold Func.isWrapper; first | (rw [if_pos (by decide +kernel)]; kernel_rfl) | (rw [if_neg (by decide +kernel)]; exact ⟨rfl, rfl⟩))
    (fun os started H enc _ => lifted os started H enc)

theorem proved : Rows.LadderPairsSaid := over
#print axioms proved
end Go.Proofs.Ytpgjcmccfpjmoaa.ladderPairs
end
