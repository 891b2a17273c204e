/-
  OtsRecovers: for every input the call returns true, and each argument reads as it read before. Conditions: none beyond the given statement's own (the package-level tables that its row lists hold what the program's text lays: the card ties that).
-/
import Derived.Test.YtfnmglicfgkmjaaDoorQOtsAM
import Derived.Test.YtfnmglicfgkmjaaDoorQOtsAP
import Derived.Test.YtfnmglicfgkmjaaDoorQOtsAB
import Derived.ProofKit
import Derived.OpenShut
import Derived.ShutString
import Derived.ChangeOld
import Derived.Deep.DeepHandedRow
section
namespace Go.Proofs.YtfnmglicfgkmjaaDoor
open Go.RowKit
set_option linter.unusedVariables false
set_option maxRecDepth 20000

set_option maxHeartbeats 8000000 in
theorem otsRecovers_walk (w : World) (hq : Tabs w) (t : List UInt8) (ht : t.length = 32) (d : List UInt8) (hd : d.length = 32) (v : Value) (L : List (List UInt8)) (hK : Ks w v L) (hL : ∀ l ∈ L, l.length = 32) :
    Calls Tryd.prog 5 #[keyV t, keyV d, v] w (RetV w (.bool true)) := by
  have HQ := Lib.hid hq
  have LT := Lib.hid ht
  have LDG := Lib.hid hd
  have HL := Lib.hid hL
  have HKK : Hid (∀ x rs, Env w rs x → Ks x v L) := fun x rs h => hK.below hL h.below
  obtain ⟨VA, vc, hv, hv1, hv2, _⟩ := hK
  obtain ⟨LEN, hlen⟩ : ∃ n, n = L.length := ⟨_, rfl⟩
  have HLEN := Lib.hid hlen
  rw [← hlen] at hv hv1
  have E0 := Lib.hid (Env.start w)
  unfold maxLen at hv2
  have HV2 : Hid (LEN ≤ maxLen) := by show LEN ≤ maxLen; unfold maxLen; omega
  have HVE := Lib.hid hv
  subst hv
  clear hq ht hd hL hlen
  by_cases h80 : 80 < LEN
  · have d1 : decide (80 < (LEN : Int)) = true := by simp; omega
    go_enter Tryd.func5, Tryd.ntmps5
    go_wp2_with (first
      | ((with_reducible refine wpE_box (o := ⟨some 3, _, _, _, _, _⟩) rfl 23 (.tmp 0) rfl (keyC t) (by with_unfolding_all rfl) E0.out ?_); intro g3 w1 T1; have E1 := Lib.hid T1; clear T1)
      | ((with_reducible refine wpE_box (o := ⟨some 4, _, _, _, _, _⟩) rfl 23 (.tmp 1) rfl (keyC d) (by with_unfolding_all rfl) E1.out ?_); intro g4 w2 T2; have E2 := Lib.hid T2; clear T2))
    refine (otsAwake_any _ (HQ.out.below E2.out.below)).mono ?_
    rintro e w4 ⟨rfl, b4⟩
    have E4 := Lib.hid (E2.out.call b4)
    clear b4 E2 E1
    go_wp2_with fail
    go_ret
    exact E4.out.ret _
  have d1 : decide (80 < (LEN : Int)) = false := by simp; omega
  by_cases h67 : LEN = 67
  · subst h67
    clear d1 h80 HV2 HVE hv1 hv2
    obtain ⟨pk, hpk⟩ : ∃ k, k = recB t d L := ⟨_, rfl⟩
    have HPK := Lib.hid hpk
    have LR : Hid (pk.length = 32) := by show _ = _; rw [hpk]; exact digestB_length _
    have heq := fun W => Tryd.eqKeyIn pk pk LR.out LR.out W
    rw [beq_self_eq_true] at heq
    have HEQ := Lib.hid heq
    clear hpk heq
    go_enter Tryd.func5, Tryd.ntmps5
    go_wp2_with (first
      | ((with_reducible refine wpE_box (o := ⟨some 3, _, _, _, _, _⟩) rfl 23 (.tmp 0) rfl (keyC t) (by with_unfolding_all rfl) E0.out ?_); intro g3 w1 T1; have E1 := Lib.hid T1; clear T1)
      | ((with_reducible refine wpE_box (o := ⟨some 4, _, _, _, _, _⟩) rfl 23 (.tmp 1) rfl (keyC d) (by with_unfolding_all rfl) E1.out ?_); intro g4 w2 T2; have E2 := Lib.hid T2; clear T2))
    refine (otsAwake_any _ (HQ.out.below E2.out.below)).mono ?_
    rintro e w4 ⟨rfl, b4⟩
    have E4 := Lib.hid (E2.out.call b4)
    clear b4 E2 E1
    go_wp2_with fail
    refine (New_any _ false).mono ?_
    intro e w5 h
    obtain ⟨g, he, n5⟩ := h
    subst he
    have E5 : Hid (Env w ((g, 66, mC 0) :: [(g4, 23, keyC d), (g3, 23, keyC t)]) w5) := E4.out.new n5
    clear n5 E4
    go_wp2_with (first
      | ((with_reducible refine wpE_box (o := ⟨some 21, _, _, _, _, _⟩) rfl 32 (.tmp 20) rfl (logC 0) (by with_unfolding_all rfl) E5.out ?_); intro gl w6 T6; have E6 := Lib.hid T6; clear T6)
      | (with_reducible refine wpE_load (o := ⟨some 24, _, _, _, _, _⟩) rfl 23 (.tmp 3) rfl 3 g3 23 (keyC t) _ (by with_unfolding_all rfl) (by with_unfolding_all rfl) Tryd.underlying23 rfl (Tryd.sizeKey _ LT.out) E6.out ?_)
      | (with_reducible refine wpE_load (o := ⟨some 25, _, _, _, _, _⟩) rfl 23 (.tmp 4) rfl 2 g4 23 (keyC d) _ (by with_unfolding_all rfl) (by with_unfolding_all rfl) Tryd.underlying23 rfl (Tryd.sizeKey _ LDG.out) E6.out ?_))
    have hcall := recover_env w _ HQ.out _ 1 g 0 t d LT.out LDG.out E6.out rfl (by omega) (.slice VA 67 vc) L HL.out HLEN.out.symm (fun x n' h => HKK.out x _ h)
    rw [← HPK.out] at hcall
    refine hcall.mono ?_
    clear hcall
    intro e w7 h
    obtain ⟨n7, hn7, he, h7⟩ := h
    subst he
    simp only [List.set_cons_zero, List.set_cons_succ] at h7
    have E7 := Lib.hid h7
    clear h7 E6 E5
    go_wp2_with (first
      | ((with_reducible refine wpE_alloc (o := ⟨some 10, _, _, _, _, _⟩) rfl 23 rfl (keyC zeroKey) Tryd.zeroK E7.out ?_); intro g10 w8 T8; have E8 := Lib.hid T8; clear T8)
      | ((with_reducible refine wpE_store (o := ⟨none, _, _, _, _, _⟩) rfl 23 (.tmp 10) (.tmp 28) rfl 0 g10 23 (keyC zeroKey) (keyC pk) (by with_unfolding_all rfl) (by with_unfolding_all rfl) (by with_unfolding_all rfl) (keyC_same zeroKey_length LR.out) (Tryd.sizeKey _ LR.out) (keyC_one _) E8.out ?_); intro w9 T9; simp only [List.set_cons_zero] at T9; have E9 := Lib.hid T9; clear T9)
      | (with_reducible refine wpE_load (o := ⟨some 32, _, _, _, _, _⟩) rfl 23 (.tmp 3) rfl 4 g3 23 (keyC t) _ (by with_unfolding_all rfl) (by with_unfolding_all rfl) Tryd.underlying23 rfl (Tryd.sizeKey _ LT.out) E9.out ?_)
      | (with_reducible refine wpE_load (o := ⟨some 33, _, _, _, _, _⟩) rfl 23 (.tmp 4) rfl 3 g4 23 (keyC d) _ (by with_unfolding_all rfl) (by with_unfolding_all rfl) Tryd.underlying23 rfl (Tryd.sizeKey _ LDG.out) E9.out ?_))
    have hcall := refRecover_env w _ _ 1 gl 0 t d LT.out LDG.out E9.out rfl (by omega) (.slice VA 67 vc) L HL.out HLEN.out.symm (fun x n' h => HKK.out x _ h)
    rw [← HPK.out] at hcall
    refine hcall.mono ?_
    clear hcall
    intro e w10 h
    obtain ⟨n10, hn10, he, h10⟩ := h
    subst he
    simp only [List.set_cons_zero, List.set_cons_succ] at h10
    have E10 := Lib.hid h10
    clear h10 E9 E8 E7
    have hgd := Tryd.eqGuardKey
    have heq := HEQ.out
    go_wp2_with (first
      | ((with_reducible refine wpE_alloc (o := ⟨some 12, _, _, _, _, _⟩) rfl 23 rfl (keyC zeroKey) Tryd.zeroK E10.out ?_); intro g12 w11 T11; have E11 := Lib.hid T11; clear T11)
      | ((with_reducible refine wpE_store (o := ⟨none, _, _, _, _, _⟩) rfl 23 (.tmp 12) (.tmp 36) rfl 0 g12 23 (keyC zeroKey) (keyC pk) (by with_unfolding_all rfl) (by with_unfolding_all rfl) (by with_unfolding_all rfl) (keyC_same zeroKey_length LR.out) (Tryd.sizeKey _ LR.out) (keyC_one _) E11.out ?_); intro w12 T12; simp only [List.set_cons_zero] at T12; have E12 := Lib.hid T12; clear T12)
      | (with_reducible refine wpListG_load_row (o := ⟨some 40, _, _, _, _, _⟩) 23 (.tmp 10) rfl (by with_unfolding_all rfl) g10 (by with_unfolding_all rfl) 23 (keyC pk) (.array 32 5) (by with_unfolding_all exact E12.out.row 1 rfl) Tryd.underlying23 rfl (Tryd.sizeKey _ LR.out) ?_)
      | (with_reducible refine wpListG_load_row (o := ⟨some 41, _, _, _, _, _⟩) 23 (.tmp 12) rfl (by with_unfolding_all rfl) g12 (by with_unfolding_all rfl) 23 (keyC pk) (.array 32 5) (by with_unfolding_all exact E12.out.row 0 rfl) Tryd.underlying23 rfl (Tryd.sizeKey _ LR.out) ?_))
    go_ret
    exact E12.out.ret _
  · have LR : Hid (zeroKey.length = 32) := zeroKey_length
    have heq := fun W => Tryd.eqKeyIn zeroKey zeroKey LR.out LR.out W
    rw [beq_self_eq_true] at heq
    have HEQ := Lib.hid heq
    clear heq
    go_enter Tryd.func5, Tryd.ntmps5
    go_wp2_with (first
      | ((with_reducible refine wpE_box (o := ⟨some 3, _, _, _, _, _⟩) rfl 23 (.tmp 0) rfl (keyC t) (by with_unfolding_all rfl) E0.out ?_); intro g3 w1 T1; have E1 := Lib.hid T1; clear T1)
      | ((with_reducible refine wpE_box (o := ⟨some 4, _, _, _, _, _⟩) rfl 23 (.tmp 1) rfl (keyC d) (by with_unfolding_all rfl) E1.out ?_); intro g4 w2 T2; have E2 := Lib.hid T2; clear T2))
    refine (otsAwake_any _ (HQ.out.below E2.out.below)).mono ?_
    rintro e w4 ⟨rfl, b4⟩
    have E4 := Lib.hid (E2.out.call b4)
    clear b4 E2 E1
    go_wp2_with fail
    refine (New_any _ false).mono ?_
    intro e w5 h
    obtain ⟨g, he, n5⟩ := h
    subst he
    have E5 : Hid (Env w ((g, 66, mC 0) :: [(g4, 23, keyC d), (g3, 23, keyC t)]) w5) := E4.out.new n5
    clear n5 E4
    go_wp2_with (first
      | ((with_reducible refine wpE_box (o := ⟨some 21, _, _, _, _, _⟩) rfl 32 (.tmp 20) rfl (logC 0) (by with_unfolding_all rfl) E5.out ?_); intro gl w6 T6; have E6 := Lib.hid T6; clear T6)
      | (with_reducible refine wpE_load (o := ⟨some 24, _, _, _, _, _⟩) rfl 23 (.tmp 3) rfl 3 g3 23 (keyC t) _ (by with_unfolding_all rfl) (by with_unfolding_all rfl) Tryd.underlying23 rfl (Tryd.sizeKey _ LT.out) E6.out ?_)
      | (with_reducible refine wpE_load (o := ⟨some 25, _, _, _, _, _⟩) rfl 23 (.tmp 4) rfl 2 g4 23 (keyC d) _ (by with_unfolding_all rfl) (by with_unfolding_all rfl) Tryd.underlying23 rfl (Tryd.sizeKey _ LDG.out) E6.out ?_))
    refine (recover_not w _ _ _ t d E6.out VA LEN vc h67 HV2.out).mono ?_
    intro e w7 h
    obtain ⟨he, h7⟩ := h
    subst he
    have hz7 := h7.below.size
    clear hz7
    have E7 := Lib.hid h7
    clear h7 E6 E5
    go_wp2_with (first
      | ((with_reducible refine wpE_alloc (o := ⟨some 10, _, _, _, _, _⟩) rfl 23 rfl (keyC zeroKey) Tryd.zeroK E7.out ?_); intro g10 w8 T8; have E8 := Lib.hid T8; clear T8)
      | ((with_reducible refine wpE_store (o := ⟨none, _, _, _, _, _⟩) rfl 23 (.tmp 10) (.tmp 28) rfl 0 g10 23 (keyC zeroKey) (keyC zeroKey) (by with_unfolding_all rfl) (by with_unfolding_all rfl) (by with_unfolding_all rfl) (keyC_same zeroKey_length LR.out) (Tryd.sizeKey _ LR.out) (keyC_one _) E8.out ?_); intro w9 T9; simp only [List.set_cons_zero] at T9; have E9 := Lib.hid T9; clear T9)
      | (with_reducible refine wpE_load (o := ⟨some 32, _, _, _, _, _⟩) rfl 23 (.tmp 3) rfl 4 g3 23 (keyC t) _ (by with_unfolding_all rfl) (by with_unfolding_all rfl) Tryd.underlying23 rfl (Tryd.sizeKey _ LT.out) E9.out ?_)
      | (with_reducible refine wpE_load (o := ⟨some 33, _, _, _, _, _⟩) rfl 23 (.tmp 4) rfl 3 g4 23 (keyC d) _ (by with_unfolding_all rfl) (by with_unfolding_all rfl) Tryd.underlying23 rfl (Tryd.sizeKey _ LDG.out) E9.out ?_))
    refine (refRecover_not w _ _ _ t d E9.out VA LEN vc h67 HV2.out).mono ?_
    intro e w10 h
    obtain ⟨he, h10⟩ := h
    subst he
    have hz10 := h10.below.size
    clear hz10
    have E10 := Lib.hid h10
    clear h10 E9 E8 E7
    have hgd := Tryd.eqGuardKey
    have heq := HEQ.out
    go_wp2_with (first
      | ((with_reducible refine wpE_alloc (o := ⟨some 12, _, _, _, _, _⟩) rfl 23 rfl (keyC zeroKey) Tryd.zeroK E10.out ?_); intro g12 w11 T11; have E11 := Lib.hid T11; clear T11)
      | ((with_reducible refine wpE_store (o := ⟨none, _, _, _, _, _⟩) rfl 23 (.tmp 12) (.tmp 36) rfl 0 g12 23 (keyC zeroKey) (keyC zeroKey) (by with_unfolding_all rfl) (by with_unfolding_all rfl) (by with_unfolding_all rfl) (keyC_same zeroKey_length LR.out) (Tryd.sizeKey _ LR.out) (keyC_one _) E11.out ?_); intro w12 T12; simp only [List.set_cons_zero] at T12; have E12 := Lib.hid T12; clear T12)
      | (with_reducible refine wpListG_load_row (o := ⟨some 40, _, _, _, _, _⟩) 23 (.tmp 10) rfl (by with_unfolding_all rfl) g10 (by with_unfolding_all rfl) 23 (keyC zeroKey) (.array 32 5) (by with_unfolding_all exact E12.out.row 1 rfl) Tryd.underlying23 rfl (Tryd.sizeKey _ LR.out) ?_)
      | (with_reducible refine wpListG_load_row (o := ⟨some 41, _, _, _, _, _⟩) 23 (.tmp 12) rfl (by with_unfolding_all rfl) g12 (by with_unfolding_all rfl) 23 (keyC zeroKey) (.array 32 5) (by with_unfolding_all exact E12.out.row 0 rfl) Tryd.underlying23 rfl (Tryd.sizeKey _ LR.out) ?_))
    go_ret
    exact E12.out.ret _
end Go.Proofs.YtfnmglicfgkmjaaDoor
end
section
namespace Go.Proofs.YtfnmglicfgkmjaaDoor.otsRecovers
open Go.ChangeShapes Go.WideShapes Go.ChangeAt Go.RowKit
open Go.ChangeMaps (open_string shut_string)
set_option linter.unusedVariables false

theorem own : ownKnob Tryd.prog.godebug = none := by kernel_rfl
theorem laidOut : laidOutB Tryd.prog = true := by kernel_rfl

theorem laid_met (os : Os) : laidMet Tryd.prog Rows.otsRecoversRow.laid ((laidWorld os).forCall (fun _ _ => 0) ⟨#[], #[.agg (List.replicate 32 (Value.int .u8 0)).toArray, .agg (List.replicate 32 (Value.int .u8 0)).toArray, .slice none 0 0], []⟩).memory :=
  laidMet_of_run' 8 (by kernel_rfl) (by kernel_rfl)
theorem reads (os : Os) {H : Type} (enc : TypeId × Value → H) : ∃ places, DataW.whole enc Tryd.prog ((laidWorld os).forCall (fun _ _ => 0) ⟨#[], #[.agg (List.replicate 32 (Value.int .u8 0)).toArray, .agg (List.replicate 32 (Value.int .u8 0)).toArray, .slice none 0 0], []⟩).memory Tryd.f5.params.toList Rows.otsRecoversSpec.vars false #[.agg (List.replicate 32 (Value.int .u8 0)).toArray, .agg (List.replicate 32 (Value.int .u8 0)).toArray, .slice none 0 0].toList 8 = some ([.agg (List.replicate 32 (.lit (.int .u8 0))), .agg (List.replicate 32 (.lit (.int .u8 0))), .nil], [], places) :=
  ⟨[], by kernel_rfl⟩

set_option maxRecDepth 100000 in
theorem contract (H : Type) (enc : TypeId × Value → H) (W : World) (base : Nat) (args : Array Value) (ds gs : List (DataW H)) (before : List MemPlace)
    (hval0 : ∀ (j : Nat) t v, Tryd.f5.params[j]? = some t → args[j]? = some v → Value.okWide Tryd.prog W .any base t v)
    (hW : DataW.Whole enc Tryd.prog Tryd.f5.params.toList Rows.otsRecoversSpec.vars false W args.toList ds gs before) (hL : laidMetH Tryd.prog Rows.otsRecoversRow.laid W) :
    Calls Tryd.prog 5 args W fun e W' => ∃ v, e = .returned v ∧ Rows.otsRecoversSpec.post enc Tryd.prog Tryd.f5 false true false false W args v W' := by
  have hq := tables hL
  have hval : ∀ (j : Nat) t v, Tryd.f5.params[j]? = some t → args[j]? = some v → Value.okWide Tryd.prog W .any base t v := hval0
  have hW' := hW
  obtain ⟨p, q, hA0, hV, rfl, hfz, hnd⟩ := hW
  have hA : DataW.TrodAll enc Tryd.prog W 0 (fun _ => true) true Tryd.f5.params.toList args.toList ds p := hA0
  rw [Tryd.params5] at hA hval
  obtain ⟨v0, vs0, d0, ds0, p0, q0, hargs, rfl, rfl, h0, r0⟩ := trodAll_cons hA
  obtain ⟨v1, vs1, d1, ds1, p1, q1, rfl, rfl, rfl, h1, r1⟩ := trodAll_cons r0
  obtain ⟨v2, vs2, d2, ds2, p2, q2, rfl, rfl, rfl, h2, r2⟩ := trodAll_cons r1
  obtain ⟨rfl, rfl, rfl⟩ := trodAll_nil r2
  obtain rfl : args = #[v0, v1, v2] := by cases args; simp_all
  obtain ⟨rfl, rfl⟩ := trodVars_none hV
  have k0 := h0
  have lt0 : ∀ x ∈ p0, x.block < W.heap.size := by obtain ⟨m, hm⟩ := k0; exact DataW.trod_lt m _ _ _ hm
  obtain ⟨l0, rfl, w0⟩ := open_key Tryd.underlying23 Tryd.underlying5 (by kernel_rfl) (by kernel_rfl) (hval 0 23 v0 rfl rfl) h0
  have k1 := h1
  have lt1 : ∀ x ∈ p1, x.block < W.heap.size := by obtain ⟨m, hm⟩ := k1; exact DataW.trod_lt m _ _ _ hm
  obtain ⟨l1, rfl, w1⟩ := open_key Tryd.underlying23 Tryd.underlying5 (by kernel_rfl) (by kernel_rfl) (hval 1 23 v1 rfl rfl) h1
  obtain ⟨a2, len2, cap2, rfl⟩ := okWide_slice Tryd.underlying39 (hval 2 39 v2 rfl rfl)
  have k2 := h2
  have lt2 : ∀ x ∈ p2, x.block < W.heap.size := by obtain ⟨m, hm⟩ := k2; exact DataW.trod_lt m _ _ _ hm
  obtain ⟨l2, w2, x2⟩ : ∃ l, Ks W (.slice a2 len2 cap2) l ∧ ∀ y ∈ l, y.length = 32 := by
    obtain ⟨fuel, hf⟩ := h2
    obtain ⟨v, l, hcs, hk, hl⟩ := open_keys Tryd.underlying39 Tryd.underlying23 Tryd.underlying5 (by kernel_rfl) (by kernel_rfl) hf
    simp [Value.cells] at hcs
    subst hcs
    exact ⟨l, hk, hl⟩
  clear hA0 hval0
  refine (otsRecovers_walk W hq l0 w0 l1 w1 _ l2 w2 x2).mono fun e W' ⟨he, bel⟩ => ?_
  subst he
  exact ⟨_, rfl, _, _, _, [], _, [], hW', trodAll_mk1 (shut_bool Tryd.underlying4 _), (trodAll_cons_mk (Below.trod laidOut (by kernel_rfl) (of_decide_eq_true (by kernel_rfl)) k0 bel lt0) (trodAll_cons_mk (Below.trod laidOut (by kernel_rfl) (of_decide_eq_true (by kernel_rfl)) k1 bel lt1) (trodAll_cons_mk (Below.trod laidOut (by kernel_rfl) (of_decide_eq_true (by kernel_rfl)) k2 bel lt2) trodAll_mk0))), rfl, bel.frame _, fun h => by cases h⟩

set_option maxRecDepth 100000 in
theorem lifted (os : Os) (started : os.Started) (H : Type) (enc : TypeId × Value → H) (F : Stop.Interp) :
    ReturnsInHanded {} Tryd.checked os 5 .any ((OpenSpec.ofChange Rows.otsRecoversSpec).preRow enc Tryd.prog Tryd.f5 Rows.otsRecoversRow.domain false Rows.otsRecoversRow.laid) (((OpenSpec.ofChange Rows.otsRecoversSpec).at F).post enc Tryd.prog Tryd.f5 false true false false) := by
  obtain ⟨places, hx⟩ := reads os enc
  refine returnsInHanded_of_row (C := Tryd.checked) (s := OpenSpec.ofChange Rows.otsRecoversSpec) own started (by kernel_rfl) Tryd.func5
    (witness_row_at (enc := enc) (C := Tryd.checked) false (laidWorld os) #[.agg (List.replicate 32 (Value.int .u8 0)).toArray, .agg (List.replicate 32 (Value.int .u8 0)).toArray, .slice none 0 0] rfl (by kernel_rfl) (by kernel_rfl) (by kernel_rfl)
      (OpenSpec.preRow_of_cond 8 hx (by kernel_rfl) (fun k hk => by cases hk) (by kernel_rfl) (laid_met os))) ?_
  intro W base args ds gs before hval hW _ _ _ hL _ _
  exact contract H enc W base args ds gs before hval hW hL

theorem said : Rows.OtsRecoversSaid :=
  OpenClaim.holds_of_cond 5 Tryd.f5 rfl rfl rfl rfl rfl rfl rfl ⟨rfl, rfl, rfl, rfl, rfl⟩ rfl rfl rfl rfl rfl (by kernel_rfl) Tryd.func5 (by kernel_rfl)
    (of_decide_eq_true (by kernel_rfl)) (by unfold Func.isWrapper; first | (rw [if_pos (by decide +kernel)]; kernel_rfl) | (rw [if_neg (by decide +kernel)]; exact ⟨rfl, rfl⟩))
    (fun os started H enc _ F => by rw [OpenClaim.pre_eq_preRow]; exact lifted os started H enc F)

theorem noStand : (Tryd.f5.params.toList.all fun t => Tryd.prog.wantsStandIn t == false) = true := by kernel_rfl
theorem plain (f : FuncId) (fn : Func) (hf : Tryd.pinned.checked.prog.funcNamed "cablegram/cablegramlaw08.OtsRecovers" = some f) (hfn : Tryd.pinned.checked.prog.funcs[f]? = some fn) :
    false = Tryd.pinned.checked.prog.looks [] ∧ ∀ (j : Nat) t, fn.params[j]? = some t → Tryd.pinned.checked.prog.wantsStandIn t = false := by
  obtain rfl : f = 5 := Option.some.inj ((show Tryd.prog.funcNamed "cablegram/cablegramlaw08.OtsRecovers" = some 5 by kernel_rfl).symm.trans hf) |>.symm
  obtain rfl : fn = Tryd.f5 := (Option.some.inj (Tryd.func5.symm.trans hfn)).symm
  refine ⟨by kernel_rfl, fun j t ht => ?_⟩
  have hm : t ∈ Tryd.f5.params.toList := by simpa using Array.mem_of_getElem? ht
  exact beq_iff_eq.1 (List.all_eq_true.1 noStand t hm)

theorem proved : Rows.OtsRecoversCardSaid :=
  Claim7.holds_tied_plain_at .later [] _ _ _ _ said (fun _ h => by cases h) (by kernel_rfl) (fun _ h => by cases h) otsRecovers_row_tie rfl ⟨rfl, rfl⟩ (by kernel_rfl) rfl plain (by kernel_rfl)
#print axioms proved
end Go.Proofs.YtfnmglicfgkmjaaDoor.otsRecovers
end
