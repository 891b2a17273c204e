/-
  FrameEncodes: for every input the call returns true, and each argument reads as it read before. Conditions: none beyond the given statement's own.
-/
import Derived.Test.YtmhhjdiilmgmoaaQFrmAN
import Derived.Test.YtmhhjdiilmgmoaaRows
import Derived.OpenShut
import Derived.ShutString
import Derived.ChangeOld
section
namespace Go.Proofs.Ytmhhjdiilmgmoaa
open Go.RowKit
set_option linter.unusedVariables false
set_option maxRecDepth 20000

set_option maxHeartbeats 4000000 in
theorem frameEncodes_walk (w : World) (v : Value) (f : Fr) (h : FrV w v f ∧ f.Ok ∧ ∀ l ∈ f.sign, l.length = 32) :
    Calls Try.prog 3 #[v] w (RetV w (.bool true)) := by
  obtain ⟨⟨bv, sv, rfl, ho, h1, h2⟩, _, _⟩ := h
  have HO := Lib.hid ho
  have HY_0 := Lib.hid h1
  have HS_0 := Lib.hid h2
  have CA := Lib.hid (fun w => awake_true w)
  obtain ⟨E, hE⟩ : ∃ E, E = checkE f := ⟨_, rfl⟩
  obtain ⟨S, hS⟩ : ∃ S, S = shapeE f := ⟨_, rfl⟩
  obtain ⟨L, hL⟩ : ∃ L, L = coreO f := ⟨_, rfl⟩
  obtain ⟨M, hM⟩ : ∃ M, M = encO f := ⟨_, rfl⟩
  obtain ⟨q, hq⟩ : ∃ q, q = shortF f := ⟨_, rfl⟩
  have C0 : Hid (∀ w v, FrV w v f → Calls Try.prog 10 #[v] w fun e w' => e = .returned (.bool q) ∧ Below w.heap.size w w') := fun w v h => by rw [hq]; exact short_any w v f h
  have C1 : Hid (∀ w v, FrV w v f → Calls Try.prog 11 #[v] w fun e w' => e = .returned (.int .i64 E) ∧ Below w.heap.size w w') := fun w v h => by rw [hE]; exact check_any w v f h
  have C2 : Hid (∀ w v, FrV w v f → Calls Try.prog 12 #[v] w fun e w' => ∃ u, e = .returned (.tuple #[u, .int .i64 S]) ∧ Bs w' u L ∧ Below w.heap.size w w') := fun w v h => by rw [hS, hL]; exact core_any w v f h
  have C3 : Hid (∀ w v, FrV w v f → Calls Try.prog 13 #[v] w fun e w' => ∃ u, e = .returned (.tuple #[u, .int .i64 S]) ∧ Bs w' u L ∧ U8At w' u ∧ Below w.heap.size w w') := fun w v h => by rw [hS, hL]; exact refCore_any w v f h
  have C4 : Hid (∀ w v, FrV w v f → Calls Try.prog 14 #[v] w fun e w' => ∃ u, e = .returned (.tuple #[u, .int .i64 E]) ∧ Bs w' u M ∧ Below w.heap.size w w') := fun w v h => by rw [hE, hM]; exact encode_any w v f h
  have C5 : Hid (∀ w v, FrV w v f → Calls Try.prog 15 #[v] w fun e w' => ∃ u, e = .returned (.tuple #[u, .int .i64 E]) ∧ Bs w' u M ∧ U8At w' u ∧ Below w.heap.size w w') := fun w v h => by rw [hE, hM]; exact refEncode_any w v f h
  have C6 : Hid (∀ w v, FrV w v f → Calls Try.prog 16 #[v] w fun e w' => e = .returned (.int .i64 E) ∧ Below w.heap.size w w') := fun w v h => by rw [hE]; exact refCheck_any w v f h
  have C7 : Hid (∀ w a b, Bs w a L → Bs w b L → Calls Try.prog 17 #[a, b] w (RetV w (.bool true))) := fun w a b h1 h2 => same_yes w a b _ h1 h2
  have C8 : Hid (∀ w a b, Bs w a M → Bs w b M → Calls Try.prog 17 #[a, b] w (RetV w (.bool true))) := fun w a b h1 h2 => same_yes w a b _ h1 h2
  clear hE hS hL hM hq ho
  obtain ⟨A, c, rfl, _⟩ := h1
  obtain ⟨B, d, rfl, _⟩ := h2
  go_enter Try.func3, Try.ntmps3
  go_wp2_with (first
    | ((with_reducible refine wpList_box_row (o := ⟨some 1, _, _, _, _, _⟩) rfl 28 (.tmp 0) rfl (frC f (.slice A f.box.length c) (.slice B f.sign.length d)) (by with_unfolding_all rfl) ?_); intro g1 w1 n1; have Rg1_1 := Lib.hid n1.row; have B1 := Lib.hid (n1.below); have HY_1 := Lib.hid (HY_0.out.below n1.below); have HS_1 := Lib.hid (HS_0.out.below n1.below); clear n1 HY_0 HS_0))
  refine (CA.out _).mono ?_
  intro e w2 hh
  obtain ⟨he, b1⟩ := hh
  subst he
  have B2 := Lib.hid (below_size B1.out b1)
  have HY_2 := Lib.hid (HY_1.out.below b1)
  have HS_2 := Lib.hid (HS_1.out.below b1)
  have Rg1_2 := Lib.hid (Rg1_1.out.kept b1)
  clear b1 B1 HY_1 HS_1 Rg1_1
  go_wp2_with (first
    | (with_reducible refine wpList_load_row (o := ⟨some 15, _, _, _, _, _⟩) rfl 28 (.tmp 1) rfl g1 (by with_unfolding_all rfl) 28 (frC f (.slice A f.box.length c) (.slice B f.sign.length d)) (0, 0) _ (by with_unfolding_all exact Rg1_2.out) Try.underlying28 rfl (Try.sizeFr HO.out _ _) ?_))
  refine (C0.out _ _ ⟨_, _, rfl, HO.out, HY_2.out, HS_2.out⟩).mono ?_
  intro e w3 hh
  obtain ⟨he, b1⟩ := hh
  subst he
  have B3 := Lib.hid (below_size B2.out b1)
  have HY_3 := Lib.hid (HY_2.out.below b1)
  have HS_3 := Lib.hid (HS_2.out.below b1)
  have Rg1_3 := Lib.hid (Rg1_2.out.kept b1)
  clear b1 B2 HY_2 HS_2 Rg1_2
  cases q with
  | false =>
    go_wp2
    go_ret
    exact ⟨rfl, B3.out⟩
  | true =>
    go_wp2_with (first
      | (with_reducible refine wpList_load_row (o := ⟨some 20, _, _, _, _, _⟩) rfl 28 (.tmp 1) rfl g1 (by with_unfolding_all rfl) 28 (frC f (.slice A f.box.length c) (.slice B f.sign.length d)) (0, 0) _ (by with_unfolding_all exact Rg1_3.out) Try.underlying28 rfl (Try.sizeFr HO.out _ _) ?_))
    refine (C1.out _ _ ⟨_, _, rfl, HO.out, HY_3.out, HS_3.out⟩).mono ?_
    intro e w4 hh
    obtain ⟨he, b1⟩ := hh
    subst he
    have B4 := Lib.hid (below_size B3.out b1)
    have HY_4 := Lib.hid (HY_3.out.below b1)
    have HS_4 := Lib.hid (HS_3.out.below b1)
    have Rg1_4 := Lib.hid (Rg1_3.out.kept b1)
    clear b1 B3 HY_3 HS_3 Rg1_3
    go_wp2_with (first
      | (with_reducible refine wpList_load_row (o := ⟨some 23, _, _, _, _, _⟩) rfl 28 (.tmp 1) rfl g1 (by with_unfolding_all rfl) 28 (frC f (.slice A f.box.length c) (.slice B f.sign.length d)) (0, 0) _ (by with_unfolding_all exact Rg1_4.out) Try.underlying28 rfl (Try.sizeFr HO.out _ _) ?_))
    refine (C2.out _ _ ⟨_, _, rfl, HO.out, HY_4.out, HS_4.out⟩).mono ?_
    intro e w5 hh
    obtain ⟨u, he, hu, b1⟩ := hh
    subst he
    have B5 := Lib.hid (below_size B4.out b1)
    have HY_5 := Lib.hid (HY_4.out.below b1)
    have HS_5 := Lib.hid (HS_4.out.below b1)
    have Rg1_5 := Lib.hid (Rg1_4.out.kept b1)
    have Ya_5 := Lib.hid hu
    obtain ⟨_, _, rfl, _⟩ := hu
    clear b1 B4 HY_4 HS_4 Rg1_4
    go_wp2_with (first
      | (with_reducible refine wpList_load_row (o := ⟨some 28, _, _, _, _, _⟩) rfl 28 (.tmp 1) rfl g1 (by with_unfolding_all rfl) 28 (frC f (.slice A f.box.length c) (.slice B f.sign.length d)) (0, 0) _ (by with_unfolding_all exact Rg1_5.out) Try.underlying28 rfl (Try.sizeFr HO.out _ _) ?_))
    refine (C3.out _ _ ⟨_, _, rfl, HO.out, HY_5.out, HS_5.out⟩).mono ?_
    intro e w6 hh
    obtain ⟨u, he, hu, _, b1⟩ := hh
    subst he
    have B6 := Lib.hid (below_size B5.out b1)
    have HY_6 := Lib.hid (HY_5.out.below b1)
    have HS_6 := Lib.hid (HS_5.out.below b1)
    have Rg1_6 := Lib.hid (Rg1_5.out.kept b1)
    have Ya_6 := Lib.hid (Ya_5.out.below b1)
    have Yb_6 := Lib.hid hu
    obtain ⟨_, _, rfl, _⟩ := hu
    clear b1 B5 HY_5 HS_5 Rg1_5 Ya_5
    go_wp2_with (first
      | (with_reducible refine wpList_load_row (o := ⟨some 33, _, _, _, _, _⟩) rfl 28 (.tmp 1) rfl g1 (by with_unfolding_all rfl) 28 (frC f (.slice A f.box.length c) (.slice B f.sign.length d)) (0, 0) _ (by with_unfolding_all exact Rg1_6.out) Try.underlying28 rfl (Try.sizeFr HO.out _ _) ?_))
    refine (C4.out _ _ ⟨_, _, rfl, HO.out, HY_6.out, HS_6.out⟩).mono ?_
    intro e w7 hh
    obtain ⟨u, he, hu, b1⟩ := hh
    subst he
    have B7 := Lib.hid (below_size B6.out b1)
    have HY_7 := Lib.hid (HY_6.out.below b1)
    have HS_7 := Lib.hid (HS_6.out.below b1)
    have Rg1_7 := Lib.hid (Rg1_6.out.kept b1)
    have Ya_7 := Lib.hid (Ya_6.out.below b1)
    have Yb_7 := Lib.hid (Yb_6.out.below b1)
    have Yc_7 := Lib.hid hu
    obtain ⟨_, _, rfl, _⟩ := hu
    clear b1 B6 HY_6 HS_6 Rg1_6 Ya_6 Yb_6
    go_wp2_with (first
      | (with_reducible refine wpList_load_row (o := ⟨some 38, _, _, _, _, _⟩) rfl 28 (.tmp 1) rfl g1 (by with_unfolding_all rfl) 28 (frC f (.slice A f.box.length c) (.slice B f.sign.length d)) (0, 0) _ (by with_unfolding_all exact Rg1_7.out) Try.underlying28 rfl (Try.sizeFr HO.out _ _) ?_))
    refine (C5.out _ _ ⟨_, _, rfl, HO.out, HY_7.out, HS_7.out⟩).mono ?_
    intro e w8 hh
    obtain ⟨u, he, hu, _, b1⟩ := hh
    subst he
    have B8 := Lib.hid (below_size B7.out b1)
    have HY_8 := Lib.hid (HY_7.out.below b1)
    have HS_8 := Lib.hid (HS_7.out.below b1)
    have Rg1_8 := Lib.hid (Rg1_7.out.kept b1)
    have Ya_8 := Lib.hid (Ya_7.out.below b1)
    have Yb_8 := Lib.hid (Yb_7.out.below b1)
    have Yc_8 := Lib.hid (Yc_7.out.below b1)
    have Yd_8 := Lib.hid hu
    obtain ⟨_, _, rfl, _⟩ := hu
    clear b1 B7 HY_7 HS_7 Rg1_7 Ya_7 Yb_7 Yc_7
    go_wp2_with (first
      | (with_reducible refine wpListG_load_row (o := ⟨some 45, _, _, _, _, _⟩) 28 (.tmp 1) rfl (by with_unfolding_all rfl) g1 (by with_unfolding_all rfl) 28 (frC f (.slice A f.box.length c) (.slice B f.sign.length d)) _ (by with_unfolding_all exact Rg1_8.out) Try.underlying28 rfl (Try.sizeFr HO.out _ _) ?_))
    refine (C6.out _ _ ⟨_, _, rfl, HO.out, HY_8.out, HS_8.out⟩).mono ?_
    intro e w9 hh
    obtain ⟨he, b1⟩ := hh
    subst he
    have B9 := Lib.hid (below_size B8.out b1)
    have HY_9 := Lib.hid (HY_8.out.below b1)
    have HS_9 := Lib.hid (HS_8.out.below b1)
    have Rg1_9 := Lib.hid (Rg1_8.out.kept b1)
    have Ya_9 := Lib.hid (Ya_8.out.below b1)
    have Yb_9 := Lib.hid (Yb_8.out.below b1)
    have Yc_9 := Lib.hid (Yc_8.out.below b1)
    have Yd_9 := Lib.hid (Yd_8.out.below b1)
    clear b1 B8 HY_8 HS_8 Rg1_8 Ya_8 Yb_8 Yc_8 Yd_8
    go_wp2_with fail
    refine (C7.out _ _ _ Ya_9.out Yb_9.out).mono ?_
    intro e w10 hh
    obtain ⟨he, b1⟩ := hh
    subst he
    have B10 := Lib.hid (below_size B9.out b1)
    have HY_10 := Lib.hid (HY_9.out.below b1)
    have HS_10 := Lib.hid (HS_9.out.below b1)
    have Rg1_10 := Lib.hid (Rg1_9.out.kept b1)
    have Ya_10 := Lib.hid (Ya_9.out.below b1)
    have Yb_10 := Lib.hid (Yb_9.out.below b1)
    have Yc_10 := Lib.hid (Yc_9.out.below b1)
    have Yd_10 := Lib.hid (Yd_9.out.below b1)
    clear b1 B9 HY_9 HS_9 Rg1_9 Ya_9 Yb_9 Yc_9 Yd_9
    go_wp2_with fail
    refine (C8.out _ _ _ Yc_10.out Yd_10.out).mono ?_
    intro e w11 hh
    obtain ⟨he, b1⟩ := hh
    subst he
    have B11 := Lib.hid (below_size B10.out b1)
    have HY_11 := Lib.hid (HY_10.out.below b1)
    have HS_11 := Lib.hid (HS_10.out.below b1)
    have Rg1_11 := Lib.hid (Rg1_10.out.kept b1)
    have Ya_11 := Lib.hid (Ya_10.out.below b1)
    have Yb_11 := Lib.hid (Yb_10.out.below b1)
    have Yc_11 := Lib.hid (Yc_10.out.below b1)
    have Yd_11 := Lib.hid (Yd_10.out.below b1)
    clear b1 B10 HY_10 HS_10 Rg1_10 Ya_10 Yb_10 Yc_10 Yd_10
    go_wp2
    go_ret
    exact ⟨rfl, B11.out⟩
end Go.Proofs.Ytmhhjdiilmgmoaa
end
section
namespace Go.Proofs.Ytmhhjdiilmgmoaa.frameEncodes
open Go.ChangeShapes Go.WideShapes Go.ChangeAt Go.RowKit
open Go.ChangeMaps (open_string shut_string)
set_option linter.unusedVariables false

theorem own : ownKnob Try.prog.godebug = none := by kernel_rfl
theorem laidOut : laidOutB Try.prog = true := by kernel_rfl

set_option maxRecDepth 100000 in
theorem lifted (os : Os) (started : os.Started) (H : Type) (enc : TypeId × Value → H) :
    ReturnsInHanded {} Try.checked os 3 .any (Rows.frameEncodesSpec.pre6 enc Try.prog Try.f3 Rows.frameEncodesRow.domain false) (Rows.frameEncodesSpec.post enc Try.prog Try.f3 false true false false) := by
  refine returnsInHanded_of_change (C := Try.checked) own started (by kernel_rfl) Try.func3
    (ChangeSpec.witness6 (enc := enc) (C := Try.checked) false ⟨#[], #[.agg (frC zeroFr nilS nilS)], []⟩ 8 (by kernel_rfl) (by kernel_rfl) (by kernel_rfl) (by kernel_rfl)) ?_
  intro W base args ds gs before hval0 hW hcnd _
  have hval : ∀ (j : Nat) t v, Try.f3.params[j]? = some t → args[j]? = some v → Value.okWide Try.prog W .any base t v := hval0
  have hW' := hW
  obtain ⟨p, q, hA0, hV, rfl, hfz, hnd⟩ := hW
  have hA : DataW.TrodAll enc Try.prog W 0 (fun _ => true) true Try.f3.params.toList args.toList ds p := hA0
  rw [Try.params3] at hA hval
  obtain ⟨v0, vs0, d0, ds0, p0, q0, hargs, rfl, rfl, h0, r0⟩ := trodAll_cons hA
  obtain ⟨rfl, rfl, rfl⟩ := trodAll_nil r0
  obtain rfl : args = #[v0] := by cases args; simp_all
  obtain ⟨rfl, rfl⟩ := trodVars_none hV
  have k0 := h0
  have lt0 : ∀ x ∈ p0, x.block < W.heap.size := by obtain ⟨m, hm⟩ := k0; exact DataW.trod_lt m _ _ _ hm
  obtain ⟨l0, w0⟩ := open_fr (hval 0 28 v0 rfl rfl) h0
  clear hA0 hval0
  refine (frameEncodes_walk W v0 l0 w0).mono fun e W' ⟨he, bel⟩ => ?_
  subst he
  exact ⟨_, rfl, _, _, _, [], _, [], hW', trodAll_mk1 (shut_bool Try.underlying4 _), (trodAll_cons_mk (Below.trod laidOut (by kernel_rfl) (of_decide_eq_true (by kernel_rfl)) k0 bel lt0) trodAll_mk0), rfl, bel.frame _, fun h => by cases h⟩

theorem over : Rows.frameEncodesRow.holds Try.pinned (OpenSpec.ofChange Rows.frameEncodesSpec) :=
  OpenClaim.holds_of_wide 3 Try.f3 rfl rfl rfl rfl rfl rfl rfl ⟨rfl, rfl, rfl, rfl, rfl⟩ rfl rfl rfl rfl rfl (by kernel_rfl) Try.func3 (by kernel_rfl)
    (of_decide_eq_true (by kernel_rfl)) (by unfold Func.isWrapper; first | (rw [if_pos (by decide +kernel)]; kernel_rfl) | (rw [if_neg (by decide +kernel)]; exact ⟨rfl, rfl⟩))
    (fun os started H enc _ => lifted os started H enc)

theorem proved : Rows.FrameEncodesSaid := over
#print axioms proved
end Go.Proofs.Ytmhhjdiilmgmoaa.frameEncodes
end
