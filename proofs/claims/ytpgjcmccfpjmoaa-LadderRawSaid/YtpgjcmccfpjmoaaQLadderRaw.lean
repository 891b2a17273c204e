/-
  LadderRaw: for every input the call returns true, and each argument reads as it read before. Conditions: none beyond the given statement's own.
-/
import Derived.Test.YtpgjcmccfpjmoaaQLadAJ
import Derived.Test.YtpgjcmccfpjmoaaQLadAO
import Derived.Test.YtpgjcmccfpjmoaaRows
import Derived.OpenShut
import Derived.ShutString
import Derived.ChangeOld
section
namespace Go.Proofs.Ytpgjcmccfpjmoaa
open Go.RowKit
set_option linter.unusedVariables false
set_option maxRecDepth 20000

set_option maxHeartbeats 4000000 in
theorem ladderRaw_walk (w : World) (i : List UInt8) (hi : i.length = 32) (j : List UInt8) (hj : j.length = 32) :
    Calls Try.prog 3 #[keyV i, keyV j] w (RetV w (.bool true)) := by
  have Li := Lib.hid hi
  clear hi
  have Lj := Lib.hid hj
  clear hj
  have C12 : Hid (∀ w, Calls Try.prog 9 #[] w (RetV w (.bool true))) := fun w => ladderAwake_any w
  obtain ⟨k14, hk14⟩ : ∃ v, v = clampK i := ⟨_, rfl⟩
  have Lk14 : Hid (k14.length = 32) := by show _ = _; rw [hk14]; exact clampK_length _ Li.out
  have C14 : Hid (∀ w, Calls Try.prog 10 #[.agg (keyC (i))] w (RetV w (.agg (keyC (k14))))) := by rw [hk14]; exact fun w => Clamp_any i Li.out w
  obtain ⟨k17, hk17⟩ : ∃ v, v = rawK i j := ⟨_, rfl⟩
  have Lk17 : Hid (k17.length = 32) := by show _ = _; rw [hk17]; exact rawK_length _ _
  have C17 : Hid (∀ w, Calls Try.prog 11 #[.agg (keyC (i)), .agg (keyC (j))] w (RetV w (.agg (keyC (k17))))) := by rw [hk17]; exact fun w => Raw_any i j Li.out Lj.out w
  obtain ⟨k21, hk21⟩ : ∃ v, v = multK i j := ⟨_, rfl⟩
  have Lk21 : Hid (k21.length = 32) := by show _ = _; rw [hk21]; exact multK_length _ _
  obtain ⟨m21, hm21⟩ : ∃ v, v = multE i j := ⟨_, rfl⟩
  have C21 : Hid (∀ w, Calls Try.prog 12 #[.agg (keyC (i)), .agg (keyC (j))] w (RetV w (.tuple #[.agg (keyC (k21)), .int .i64 m21]))) := by rw [hk21, hm21]; exact fun w => Mult_any i j Li.out Lj.out w
  obtain ⟨k27, hk27⟩ : ∃ v, v = multK i j := ⟨_, rfl⟩
  have Lk27 : Hid (k27.length = 32) := by show _ = _; rw [hk27]; exact multK_length _ _
  have C27 : Hid (∀ w, Calls Try.prog 13 #[.agg (keyC (i)), .agg (keyC (j))] w (RetV w (.tuple #[.agg (keyC (k27)), .int .i64 m21]))) := by rw [hk27, hm21]; exact fun w => refMult_any i j Li.out Lj.out w
  obtain ⟨k34, hk34⟩ : ∃ v, v = clampK i := ⟨_, rfl⟩
  have Lk34 : Hid (k34.length = 32) := by show _ = _; rw [hk34]; exact clampK_length _ Li.out
  have C34 : Hid (∀ w, Calls Try.prog 14 #[.agg (keyC (i))] w (RetV w (.agg (keyC (k34))))) := by rw [hk34]; exact fun w => refClamp_any i Li.out w
  have Q35 : Hid (∀ W, (Op.equalIn 10000 23 (.agg (keyC k14)) (.agg (keyC k34))).run Try.prog W = .ok true W) := fun W => by rw [Try.eqKeyIn k14 k34 Lk14.out Lk34.out W]; exact congrArg (fun v => Result.ok v W) (by rw [beq_iff_eq, hk14, hk34])
  obtain ⟨k41, hk41⟩ : ∃ v, v = rawK i j := ⟨_, rfl⟩
  have Lk41 : Hid (k41.length = 32) := by show _ = _; rw [hk41]; exact rawK_length _ _
  have C41 : Hid (∀ w, Calls Try.prog 15 #[.agg (keyC (i)), .agg (keyC (j))] w (RetV w (.agg (keyC (k41))))) := by rw [hk41]; exact fun w => refRaw_any i j Li.out Lj.out w
  have Q42 : Hid (∀ W, (Op.equalIn 10000 23 (.agg (keyC k17)) (.agg (keyC k41))).run Try.prog W = .ok true W) := fun W => by rw [Try.eqKeyIn k17 k41 Lk17.out Lk41.out W]; exact congrArg (fun v => Result.ok v W) (by rw [beq_iff_eq, hk17, hk41])
  have Q47 : Hid (∀ W, (Op.equalIn 10000 23 (.agg (keyC k21)) (.agg (keyC k27))).run Try.prog W = .ok true W) := fun W => by rw [Try.eqKeyIn k21 k27 Lk21.out Lk27.out W]; exact congrArg (fun v => Result.ok v W) (by rw [beq_iff_eq, hk21, hk27])
  clear hk14 hk17 hk21 hm21 hk27 hk34 hk41
  have E0 := Lib.hid (Env.start w)
  go_enter Try.func3, Try.ntmps3
  go_wp2_with (first
    | ((with_reducible refine wpE_box (o := ⟨some 2, _, _, _, _, _⟩) rfl 23 (.tmp 0) rfl (keyC (i)) (by with_unfolding_all rfl) E0.out ?_); intro g1 w1 T1; have E1 := Lib.hid T1; clear T1)
    | ((with_reducible refine wpE_box (o := ⟨some 3, _, _, _, _, _⟩) rfl 23 (.tmp 1) rfl (keyC (j)) (by with_unfolding_all rfl) E1.out ?_); intro g2 w2 T2; have E2 := Lib.hid T2; clear T2))
  refine (C12.out _).mono ?_
  rintro e w3 ⟨rfl, b3⟩
  have E3 := Lib.hid (E2.out.call b3)
  clear b3 E2
  go_wp2_with (first
    | (with_reducible refine wpE_load (o := ⟨some 13, _, _, _, _, _⟩) rfl 23 (.tmp 2) rfl 1 g1 23 (keyC (i)) _ (by with_unfolding_all rfl) (by with_unfolding_all rfl) Try.underlying23 rfl (Try.sizeKey _ Li.out) E3.out ?_))
  refine (C14.out _).mono ?_
  rintro e w4 ⟨rfl, b4⟩
  have E4 := Lib.hid (E3.out.call b4)
  clear b4 E3
  go_wp2_with (first
    | ((with_reducible refine wpE_alloc (o := ⟨some 6, _, _, _, _, _⟩) rfl 23 rfl (keyC (zeroKey)) Try.zeroK E4.out ?_); intro g3 w5 T5; have E5 := Lib.hid T5; clear T5)
    | ((with_reducible refine wpE_store (o := ⟨none, _, _, _, _, _⟩) rfl 23 (.tmp 6) (.tmp 14) rfl 0 g3 23 (keyC (zeroKey)) (keyC (k14)) (by with_unfolding_all rfl) (by with_unfolding_all rfl) (by with_unfolding_all rfl) (keyC_same zeroKey_length Lk14.out) (Try.sizeKey _ Lk14.out) (keyC_one _) E5.out ?_); intro w6 T6; simp only [List.set_cons_zero] at T6; have E6 := Lib.hid T6; clear T6)
    | (with_reducible refine wpE_load (o := ⟨some 15, _, _, _, _, _⟩) rfl 23 (.tmp 2) rfl 2 g1 23 (keyC (i)) _ (by with_unfolding_all rfl) (by with_unfolding_all rfl) Try.underlying23 rfl (Try.sizeKey _ Li.out) E6.out ?_)
    | (with_reducible refine wpE_load (o := ⟨some 16, _, _, _, _, _⟩) rfl 23 (.tmp 3) rfl 1 g2 23 (keyC (j)) _ (by with_unfolding_all rfl) (by with_unfolding_all rfl) Try.underlying23 rfl (Try.sizeKey _ Lj.out) E6.out ?_))
  refine (C17.out _).mono ?_
  rintro e w7 ⟨rfl, b7⟩
  have E7 := Lib.hid (E6.out.call b7)
  clear b7 E6
  go_wp2_with (first
    | ((with_reducible refine wpE_alloc (o := ⟨some 7, _, _, _, _, _⟩) rfl 23 rfl (keyC (zeroKey)) Try.zeroK E7.out ?_); intro g4 w8 T8; have E8 := Lib.hid T8; clear T8)
    | ((with_reducible refine wpE_store (o := ⟨none, _, _, _, _, _⟩) rfl 23 (.tmp 7) (.tmp 17) rfl 0 g4 23 (keyC (zeroKey)) (keyC (k17)) (by with_unfolding_all rfl) (by with_unfolding_all rfl) (by with_unfolding_all rfl) (keyC_same zeroKey_length Lk17.out) (Try.sizeKey _ Lk17.out) (keyC_one _) E8.out ?_); intro w9 T9; simp only [List.set_cons_zero] at T9; have E9 := Lib.hid T9; clear T9)
    | (with_reducible refine wpE_load (o := ⟨some 19, _, _, _, _, _⟩) rfl 23 (.tmp 2) rfl 3 g1 23 (keyC (i)) _ (by with_unfolding_all rfl) (by with_unfolding_all rfl) Try.underlying23 rfl (Try.sizeKey _ Li.out) E9.out ?_)
    | (with_reducible refine wpE_load (o := ⟨some 20, _, _, _, _, _⟩) rfl 23 (.tmp 3) rfl 2 g2 23 (keyC (j)) _ (by with_unfolding_all rfl) (by with_unfolding_all rfl) Try.underlying23 rfl (Try.sizeKey _ Lj.out) E9.out ?_))
  refine (C21.out _).mono ?_
  rintro e w10 ⟨rfl, b10⟩
  have E10 := Lib.hid (E9.out.call b10)
  clear b10 E9
  go_wp2_with (first
    | ((with_reducible refine wpE_alloc (o := ⟨some 8, _, _, _, _, _⟩) rfl 23 rfl (keyC (zeroKey)) Try.zeroK E10.out ?_); intro g5 w11 T11; have E11 := Lib.hid T11; clear T11)
    | ((with_reducible refine wpE_store (o := ⟨none, _, _, _, _, _⟩) rfl 23 (.tmp 8) (.tmp 22) rfl 0 g5 23 (keyC (zeroKey)) (keyC (k21)) (by with_unfolding_all rfl) (by with_unfolding_all rfl) (by with_unfolding_all rfl) (keyC_same zeroKey_length Lk21.out) (Try.sizeKey _ Lk21.out) (keyC_one _) E11.out ?_); intro w12 T12; simp only [List.set_cons_zero] at T12; have E12 := Lib.hid T12; clear T12)
    | (with_reducible refine wpE_load (o := ⟨some 25, _, _, _, _, _⟩) rfl 23 (.tmp 2) rfl 4 g1 23 (keyC (i)) _ (by with_unfolding_all rfl) (by with_unfolding_all rfl) Try.underlying23 rfl (Try.sizeKey _ Li.out) E12.out ?_)
    | (with_reducible refine wpE_load (o := ⟨some 26, _, _, _, _, _⟩) rfl 23 (.tmp 3) rfl 3 g2 23 (keyC (j)) _ (by with_unfolding_all rfl) (by with_unfolding_all rfl) Try.underlying23 rfl (Try.sizeKey _ Lj.out) E12.out ?_))
  refine (C27.out _).mono ?_
  rintro e w13 ⟨rfl, b13⟩
  have E13 := Lib.hid (E12.out.call b13)
  clear b13 E12
  go_wp2_with (first
    | ((with_reducible refine wpE_alloc (o := ⟨some 10, _, _, _, _, _⟩) rfl 23 rfl (keyC (zeroKey)) Try.zeroK E13.out ?_); intro g6 w14 T14; have E14 := Lib.hid T14; clear T14)
    | ((with_reducible refine wpE_store (o := ⟨none, _, _, _, _, _⟩) rfl 23 (.tmp 10) (.tmp 28) rfl 0 g6 23 (keyC (zeroKey)) (keyC (k27)) (by with_unfolding_all rfl) (by with_unfolding_all rfl) (by with_unfolding_all rfl) (keyC_same zeroKey_length Lk27.out) (Try.sizeKey _ Lk27.out) (keyC_one _) E14.out ?_); intro w15 T15; simp only [List.set_cons_zero] at T15; have E15 := Lib.hid T15; clear T15))
  refine region_class _ E15.out.drew (by kernel_rfl) (by kernel_rfl) ?_
  refine q_run (by rfl) (v := .bool true) (fun W _ => by go_simp) ?_
  simp only [Act.put, List.setIfInBounds_toArray, List.set_cons_zero, List.set_cons_succ]
  refine q_run (by rfl) (v := .bool true) (fun W _ => by go_simp) ?_
  simp only [Act.put, List.setIfInBounds_toArray, List.set_cons_zero, List.set_cons_succ]
  refine qE_load (by rfl) _ (.tmp 6) rfl 3 g3 23 (keyC (k14)) _ rfl rfl Try.underlying23 rfl (Try.sizeKey _ Lk14.out) ?_
  simp only [Act.put, List.setIfInBounds_toArray, List.set_cons_zero, List.set_cons_succ]
  refine qE_load (by rfl) _ (.tmp 2) rfl 5 g1 23 (keyC (i)) _ rfl rfl Try.underlying23 rfl (Try.sizeKey _ Li.out) ?_
  simp only [Act.put, List.setIfInBounds_toArray, List.set_cons_zero, List.set_cons_succ]
  refine q_call (by rfl) 14 _ (fun W => by go_simp) (fun W hW => hW.calls (C34.out W)) ?_
  simp only [Act.put, List.setIfInBounds_toArray, List.set_cons_zero, List.set_cons_succ]
  refine q_run (by rfl) (v := .bool true) (fun W _ => by have hq := Q35.out; have hg := Try.eqGuardKey; go_simp) ?_
  simp only [Act.put, List.setIfInBounds_toArray, List.set_cons_zero, List.set_cons_succ]
  refine q_run (by rfl) (v := .bool true) (fun W _ => by go_simp) ?_
  simp only [Act.put, List.setIfInBounds_toArray, List.set_cons_zero, List.set_cons_succ]
  refine q_run (by rfl) (v := .bool true) (fun W _ => by go_simp) ?_
  simp only [Act.put, List.setIfInBounds_toArray, List.set_cons_zero, List.set_cons_succ]
  refine qE_load (by rfl) _ (.tmp 7) rfl 2 g4 23 (keyC (k17)) _ rfl rfl Try.underlying23 rfl (Try.sizeKey _ Lk17.out) ?_
  simp only [Act.put, List.setIfInBounds_toArray, List.set_cons_zero, List.set_cons_succ]
  refine qE_load (by rfl) _ (.tmp 2) rfl 5 g1 23 (keyC (i)) _ rfl rfl Try.underlying23 rfl (Try.sizeKey _ Li.out) ?_
  simp only [Act.put, List.setIfInBounds_toArray, List.set_cons_zero, List.set_cons_succ]
  refine qE_load (by rfl) _ (.tmp 3) rfl 4 g2 23 (keyC (j)) _ rfl rfl Try.underlying23 rfl (Try.sizeKey _ Lj.out) ?_
  simp only [Act.put, List.setIfInBounds_toArray, List.set_cons_zero, List.set_cons_succ]
  refine q_call (by rfl) 15 _ (fun W => by go_simp) (fun W hW => hW.calls (C41.out W)) ?_
  simp only [Act.put, List.setIfInBounds_toArray, List.set_cons_zero, List.set_cons_succ]
  refine q_run (by rfl) (v := .bool true) (fun W _ => by have hq := Q42.out; have hg := Try.eqGuardKey; go_simp) ?_
  simp only [Act.put, List.setIfInBounds_toArray, List.set_cons_zero, List.set_cons_succ]
  refine q_run (by rfl) (v := .bool true) (fun W _ => by go_simp) ?_
  simp only [Act.put, List.setIfInBounds_toArray, List.set_cons_zero, List.set_cons_succ]
  refine q_run (by rfl) (v := .bool true) (fun W _ => by go_simp) ?_
  simp only [Act.put, List.setIfInBounds_toArray, List.set_cons_zero, List.set_cons_succ]
  refine qE_load (by rfl) _ (.tmp 8) rfl 1 g5 23 (keyC (k21)) _ rfl rfl Try.underlying23 rfl (Try.sizeKey _ Lk21.out) ?_
  simp only [Act.put, List.setIfInBounds_toArray, List.set_cons_zero, List.set_cons_succ]
  refine qE_load (by rfl) _ (.tmp 10) rfl 0 g6 23 (keyC (k27)) _ rfl rfl Try.underlying23 rfl (Try.sizeKey _ Lk27.out) ?_
  simp only [Act.put, List.setIfInBounds_toArray, List.set_cons_zero, List.set_cons_succ]
  refine q_run (by rfl) (v := .bool true) (fun W _ => by have hq := Q47.out; have hg := Try.eqGuardKey; go_simp) ?_
  simp only [Act.put, List.setIfInBounds_toArray, List.set_cons_zero, List.set_cons_succ]
  refine q_run (by rfl) (v := .bool true) (fun W _ => by go_simp) ?_
  simp only [Act.put, List.setIfInBounds_toArray, List.set_cons_zero, List.set_cons_succ]
  refine q_run (by rfl) (v := .bool true) (fun W _ => by go_simp) ?_
  simp only [Act.put, List.setIfInBounds_toArray, List.set_cons_zero, List.set_cons_succ]
  refine q_run (by rfl) (v := .int .i64 m21) (fun W _ => by go_simp) ?_
  simp only [Act.put, List.setIfInBounds_toArray, List.set_cons_zero, List.set_cons_succ]
  refine q_run (by rfl) (v := .int .i64 m21) (fun W _ => by go_simp) ?_
  simp only [Act.put, List.setIfInBounds_toArray, List.set_cons_zero, List.set_cons_succ]
  refine q_run (by rfl) (v := .bool true) (fun W _ => by go_simp) ?_
  simp only [Act.put, List.setIfInBounds_toArray, List.set_cons_zero, List.set_cons_succ]
  refine q_run (by rfl) (v := .bool true) (fun W _ => by go_simp) ?_
  simp only [Act.put, List.setIfInBounds_toArray, List.set_cons_zero, List.set_cons_succ]
  refine q_run (by rfl) (v := .bool true) (fun W _ => by go_simp) ?_
  simp only [Act.put, List.setIfInBounds_toArray, List.set_cons_zero, List.set_cons_succ]
  refine wpQuiet_nil ?_
  intro w16 T16
  have E16 := Lib.hid T16
  clear T16 E15
  go_wp2_with fail
  go_ret
  exact E16.out.ret _
end Go.Proofs.Ytpgjcmccfpjmoaa
end
section
namespace Go.Proofs.Ytpgjcmccfpjmoaa.ladderRaw
open Go.ChangeShapes Go.WideShapes Go.ChangeAt Go.RowKit
open Go.ChangeMaps (open_string shut_string)
set_option linter.unusedVariables false

theorem own : ownKnob Try.prog.godebug = none := by kernel_rfl
theorem laidOut : laidOutB Try.prog = true := by kernel_rfl

set_option maxRecDepth 100000 in
theorem lifted (os : Os) (started : os.Started) (H : Type) (enc : TypeId × Value → H) :
    ReturnsInHanded {} Try.checked os 3 .any (Rows.ladderRawSpec.pre6 enc Try.prog Try.f3 Rows.ladderRawRow.domain false) (Rows.ladderRawSpec.post enc Try.prog Try.f3 false true false false) := by
  refine returnsInHanded_of_change (C := Try.checked) own started (by kernel_rfl) Try.func3
    (ChangeSpec.witness6 (enc := enc) (C := Try.checked) false ⟨#[], #[.agg (List.replicate 32 (Value.int .u8 0)).toArray, .agg (List.replicate 32 (Value.int .u8 0)).toArray], []⟩ 8 (by kernel_rfl) (by kernel_rfl) (by kernel_rfl) (by kernel_rfl)) ?_
  intro W base args ds gs before hval0 hW hcnd _
  have hval : ∀ (j : Nat) t v, Try.f3.params[j]? = some t → args[j]? = some v → Value.okWide Try.prog W .any base t v := hval0
  have hW' := hW
  obtain ⟨p, q, hA0, hV, rfl, hfz, hnd⟩ := hW
  have hA : DataW.TrodAll enc Try.prog W 0 (fun _ => true) true Try.f3.params.toList args.toList ds p := hA0
  rw [Try.params3] at hA hval
  obtain ⟨v0, vs0, d0, ds0, p0, q0, hargs, rfl, rfl, h0, r0⟩ := trodAll_cons hA
  obtain ⟨v1, vs1, d1, ds1, p1, q1, rfl, rfl, rfl, h1, r1⟩ := trodAll_cons r0
  obtain ⟨rfl, rfl, rfl⟩ := trodAll_nil r1
  obtain rfl : args = #[v0, v1] := by cases args; simp_all
  obtain ⟨rfl, rfl⟩ := trodVars_none hV
  have k0 := h0
  have lt0 : ∀ x ∈ p0, x.block < W.heap.size := by obtain ⟨m, hm⟩ := k0; exact DataW.trod_lt m _ _ _ hm
  obtain ⟨l0, rfl, w0⟩ := open_key Try.underlying23 Try.underlying5 (by kernel_rfl) (by kernel_rfl) (hval 0 23 v0 rfl rfl) h0
  have k1 := h1
  have lt1 : ∀ x ∈ p1, x.block < W.heap.size := by obtain ⟨m, hm⟩ := k1; exact DataW.trod_lt m _ _ _ hm
  obtain ⟨l1, rfl, w1⟩ := open_key Try.underlying23 Try.underlying5 (by kernel_rfl) (by kernel_rfl) (hval 1 23 v1 rfl rfl) h1
  clear hA0 hval0
  refine (ladderRaw_walk W l0 w0 l1 w1).mono fun e W' ⟨he, bel⟩ => ?_
  subst he
  exact ⟨_, rfl, _, _, _, [], _, [], hW', trodAll_mk1 (shut_bool Try.underlying4 _), (trodAll_cons_mk (Below.trod laidOut (by kernel_rfl) (of_decide_eq_true (by kernel_rfl)) k0 bel lt0) (trodAll_cons_mk (Below.trod laidOut (by kernel_rfl) (of_decide_eq_true (by kernel_rfl)) k1 bel lt1) trodAll_mk0)), rfl, bel.frame _, fun h => by cases h⟩

theorem over : Rows.ladderRawRow.holds Try.pinned (OpenSpec.ofChange Rows.ladderRawSpec) :=
  OpenClaim.holds_of_wide 3 Try.f3 rfl rfl rfl rfl rfl rfl rfl ⟨rfl, rfl, rfl, rfl, rfl⟩ rfl rfl rfl rfl rfl (by kernel_rfl) Try.func3 (by kernel_rfl)
    (of_decide_eq_true (by kernel_rfl)) (by unfold Func.isWrapper; first | (rw [if_pos (by decide +kernel)]; kernel_rfl) | (rw [if_neg (by decide +kernel)]; exact ⟨rfl, rfl⟩))
    (fun os started H enc _ => lifted os started H enc)

theorem proved : Rows.LadderRawSaid := over
#print axioms proved
end Go.Proofs.Ytpgjcmccfpjmoaa.ladderRaw
end
