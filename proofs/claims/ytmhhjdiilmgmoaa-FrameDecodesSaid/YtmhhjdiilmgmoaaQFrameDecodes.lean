/-
  FrameDecodes: for every input the call returns true, and each argument reads as it read before. Conditions: none beyond the given statement's own.
-/
import Derived.Test.YtmhhjdiilmgmoaaQFrmAN
import Derived.Test.YtmhhjdiilmgmoaaRows
import Derived.OpenShut
import Derived.ShutString
import Derived.ChangeOld
section
namespace Go.Proofs.Ytmhhjdiilmgmoaa
open Go.RowKit
set_option linter.unusedVariables false
set_option maxRecDepth 20000

set_option maxHeartbeats 4000000 in
theorem frameDecodes_walk (w : World) (v : Value) (b : List UInt8) (h : Bs w v b) :
    Calls Try.prog 4 #[v] w (RetV w (.bool true)) := by
  have HH_0 := Lib.hid h
  have CA := Lib.hid (fun w => awake_true w)
  obtain ⟨F, hF⟩ : ∃ F, F = decF b := ⟨_, rfl⟩
  obtain ⟨E, hE⟩ : ∃ E, E = decE b := ⟨_, rfl⟩
  obtain ⟨K, hK⟩ : ∃ K, K = bdF b := ⟨_, rfl⟩
  obtain ⟨W, hW⟩ : ∃ W, W = bdW b := ⟨_, rfl⟩
  have C1 : Hid (∀ w v, Bs w v b → Calls Try.prog 18 #[v] w fun e w' => ∃ u, e = .returned (.tuple #[u, .int .i64 E]) ∧ FrV w' u F ∧ Below w.heap.size w w') := fun w v h => by rw [hF, hE]; exact decode_any w v b h
  have C2 : Hid (∀ w v, Bs w v b → Calls Try.prog 19 #[v] w fun e w' => ∃ u, e = .returned (.tuple #[u, .int .i64 E]) ∧ FrV w' u F ∧ Below w.heap.size w w') := fun w v h => by rw [hF, hE]; exact refDecode_any w v b h
  have C3 : Hid (b.length ≤ 9000 → ∀ w v, Bs w v b → Calls Try.prog 20 #[v] w fun e w' => e = .returned (.tuple #[.agg (keyC K.flatten), .int .i64 W]) ∧ BuOk K ∧ Below w.heap.size w w') := fun hl w v h => by rw [hK, hW]; exact decodeBundle_any w v b h (by omega)
  have C4 : Hid (b.length ≤ 9000 → ∀ w v, Bs w v b → Calls Try.prog 21 #[v] w fun e w' => e = .returned (.tuple #[.agg (keyC K.flatten), .int .i64 W]) ∧ BuOk K ∧ Below w.heap.size w w') := fun hl w v h => by rw [hK, hW]; exact refDecodeBundle_any w v b h (by omega)
  have hsl : F.sign.length ≤ 1000 := by
    rw [hF]
    unfold decF
    split
    · rename_i hd
      have := (check_zero (rdM_of_dec hd).2.2.2.1).2
      omega
    · simp [zeroFr]
  have C5 : Hid (∀ w a c, FrV w a F → FrV w c F → Calls Try.prog 22 #[a, c] w fun e w' => e = .returned (.bool true) ∧ Below w.heap.size w w') := fun w a c h1 h2 => by
    have := refSame_any w a c F F h1 h2 hsl
    rwa [(sameF_iff F F).2 rfl] at this
  clear hF hE hK hW hsl
  obtain ⟨A, c, rfl, _, q2, _⟩ := h
  unfold maxLen at q2
  have hl1 : b.length ≤ 9223372036854775807 := by omega
  clear q2
  by_cases a0 : 9000 < b.length
  · have d0 : decide (9000 < (b.length : Int)) = true := by simp; omega
    clear a0 C1 C2 C3 C4 C5
    go_enter Try.func4, Try.ntmps4
    go_wp2_with fail
    refine (CA.out _).mono ?_
    intro e w1 hh
    obtain ⟨he, b1⟩ := hh
    subst he
    have B1 := Lib.hid b1
    clear b1
    go_wp2
    go_ret
    exact ⟨rfl, B1.out⟩
  have d0 : decide (9000 < (b.length : Int)) = false := by simp; omega
  have HL : Hid (b.length ≤ 9000) := by show _ ≤ _; omega
  clear a0
  go_enter Try.func4, Try.ntmps4
  go_wp2_with fail
  refine (CA.out _).mono ?_
  intro e w1 hh
  obtain ⟨he, b1⟩ := hh
  subst he
  have B1 := Lib.hid (b1)
  have HH_1 := Lib.hid (HH_0.out.below b1)
  clear b1 HH_0
  go_wp2_with fail
  refine (C1.out _ _ HH_1.out).mono ?_
  intro e w2 hh
  obtain ⟨u, he, hu, b1⟩ := hh
  subst he
  have B2 := Lib.hid (below_size B1.out b1)
  have HH_2 := Lib.hid (HH_1.out.below b1)
  obtain ⟨bu, su, rfl, ho, hb, hs⟩ := hu
  have O1 := Lib.hid ho
  have Ya_2 := Lib.hid hb
  have Sa_2 := Lib.hid hs
  obtain ⟨Aa, ca, rfl, _⟩ := hb
  obtain ⟨Da, da, rfl, _⟩ := hs
  clear ho
  clear b1 B1 HH_1
  go_wp2_with (first
    | ((with_reducible refine wpList_alloc_row (o := ⟨some 4, _, _, _, _, _⟩) rfl 28 rfl (frC zeroFr nilS nilS) Try.zeroOfFr ?_); intro g4 x3 n3; have N3 := Lib.hid n3; clear n3)
    | ((with_reducible refine wpList_store_row (o := ⟨none, _, _, _, _, _⟩) rfl 28 (.tmp 4) (.tmp 21) rfl g4 28 (frC zeroFr nilS nilS) (frC F (.slice Aa F.box.length ca) (.slice Da F.sign.length da)) ?h1_3 ?h2_3 ?h3_3 ?h4_3 ?h5_3 ?h6_3 ?h7_3); (case h1_3 => with_unfolding_all rfl); (case h2_3 => with_unfolding_all rfl); (case h3_3 => exact N3.out.row); (case h4_3 => rw [frC_size zeroFr_ok, frC_size O1.out]); (case h5_3 => exact Try.sizeFr O1.out _ _); (case h6_3 => exact frC_one _ _ _ rfl rfl); intro w3 p3; have L3 := (laid_put N3.out p3).1; have Rg4_3 := Lib.hid p3.row; have B3 := Lib.hid (below_size B2.out L3); have HH_3 := Lib.hid (HH_2.out.below L3); have Ya_3 := Lib.hid (Ya_2.out.below L3); have Sa_3 := Lib.hid (Sa_2.out.below L3); clear L3 p3 N3 B2 HH_2 Ya_2 Sa_2))
  refine (C2.out _ _ HH_3.out).mono ?_
  intro e w4 hh
  obtain ⟨u, he, hu, b1⟩ := hh
  subst he
  have B4 := Lib.hid (below_size B3.out b1)
  have HH_4 := Lib.hid (HH_3.out.below b1)
  have Ya_4 := Lib.hid (Ya_3.out.below b1)
  have Sa_4 := Lib.hid (Sa_3.out.below b1)
  have Rg4_4 := Lib.hid (Rg4_3.out.kept b1)
  obtain ⟨bu, su, rfl, ho, hb, hs⟩ := hu
  have O2 := Lib.hid ho
  have Yb_4 := Lib.hid hb
  have Sb_4 := Lib.hid hs
  obtain ⟨Ab, cb, rfl, _⟩ := hb
  obtain ⟨Db, db, rfl, _⟩ := hs
  clear ho
  clear b1 B3 HH_3 Ya_3 Sa_3 Rg4_3
  go_wp2_with (first
    | ((with_reducible refine wpList_alloc_row (o := ⟨some 6, _, _, _, _, _⟩) rfl 28 rfl (frC zeroFr nilS nilS) Try.zeroOfFr ?_); intro g6 x5 n5; have N5 := Lib.hid n5; clear n5)
    | ((with_reducible refine wpList_store_row (o := ⟨none, _, _, _, _, _⟩) rfl 28 (.tmp 6) (.tmp 26) rfl g6 28 (frC zeroFr nilS nilS) (frC F (.slice Ab F.box.length cb) (.slice Db F.sign.length db)) ?h1_5 ?h2_5 ?h3_5 ?h4_5 ?h5_5 ?h6_5 ?h7_5); (case h1_5 => with_unfolding_all rfl); (case h2_5 => with_unfolding_all rfl); (case h3_5 => exact N5.out.row); (case h4_5 => rw [frC_size zeroFr_ok, frC_size O2.out]); (case h5_5 => exact Try.sizeFr O2.out _ _); (case h6_5 => exact frC_one _ _ _ rfl rfl); intro w5 p5; have L5 := (laid_put N5.out p5).1; have Rg6_5 := Lib.hid p5.row; have B5 := Lib.hid (below_size B4.out L5); have HH_5 := Lib.hid (HH_4.out.below L5); have Ya_5 := Lib.hid (Ya_4.out.below L5); have Sa_5 := Lib.hid (Sa_4.out.below L5); have Rg4_5 := Lib.hid (Rg4_4.out.kept L5); have Yb_5 := Lib.hid (Yb_4.out.below L5); have Sb_5 := Lib.hid (Sb_4.out.below L5); clear L5 p5 N5 B4 HH_4 Ya_4 Sa_4 Rg4_4 Yb_4 Sb_4))
  refine (C3.out HL.out _ _ HH_5.out).mono ?_
  intro e w6 hh
  obtain ⟨he, ho, b1⟩ := hh
  subst he
  have B6 := Lib.hid (below_size B5.out b1)
  have HH_6 := Lib.hid (HH_5.out.below b1)
  have Ya_6 := Lib.hid (Ya_5.out.below b1)
  have Sa_6 := Lib.hid (Sa_5.out.below b1)
  have Rg4_6 := Lib.hid (Rg4_5.out.kept b1)
  have Yb_6 := Lib.hid (Yb_5.out.below b1)
  have Sb_6 := Lib.hid (Sb_5.out.below b1)
  have Rg6_6 := Lib.hid (Rg6_5.out.kept b1)
  have O3 := Lib.hid ho
  clear ho
  clear b1 B5 HH_5 Ya_5 Sa_5 Rg4_5 Yb_5 Sb_5 Rg6_5
  go_wp2_with (first
    | ((with_reducible refine wpList_alloc_row (o := ⟨some 8, _, _, _, _, _⟩) rfl 39 rfl (keyC zeroBu.flatten) Try.zeroOfBu ?_); intro g8 x7 n7; have N7 := Lib.hid n7; clear n7)
    | ((with_reducible refine wpList_store_row (o := ⟨none, _, _, _, _, _⟩) rfl 39 (.tmp 8) (.tmp 31) rfl g8 39 (keyC zeroBu.flatten) (keyC K.flatten) ?h1_7 ?h2_7 ?h3_7 ?h4_7 ?h5_7 ?h6_7 ?h7_7); (case h1_7 => with_unfolding_all rfl); (case h2_7 => with_unfolding_all rfl); (case h3_7 => exact N7.out.row); (case h4_7 => rw [zeroBu_ok.size, BuOk.size O3.out]); (case h5_7 => exact Try.sizeBu O3.out); (case h6_7 => exact keyC_one _); intro w7 p7; have L7 := (laid_put N7.out p7).1; have Rg8_7 := Lib.hid p7.row; have B7 := Lib.hid (below_size B6.out L7); have HH_7 := Lib.hid (HH_6.out.below L7); have Ya_7 := Lib.hid (Ya_6.out.below L7); have Sa_7 := Lib.hid (Sa_6.out.below L7); have Rg4_7 := Lib.hid (Rg4_6.out.kept L7); have Yb_7 := Lib.hid (Yb_6.out.below L7); have Sb_7 := Lib.hid (Sb_6.out.below L7); have Rg6_7 := Lib.hid (Rg6_6.out.kept L7); clear L7 p7 N7 B6 HH_6 Ya_6 Sa_6 Rg4_6 Yb_6 Sb_6 Rg6_6))
  refine (C4.out HL.out _ _ HH_7.out).mono ?_
  intro e w8 hh
  obtain ⟨he, ho, b1⟩ := hh
  subst he
  have B8 := Lib.hid (below_size B7.out b1)
  have HH_8 := Lib.hid (HH_7.out.below b1)
  have Ya_8 := Lib.hid (Ya_7.out.below b1)
  have Sa_8 := Lib.hid (Sa_7.out.below b1)
  have Rg4_8 := Lib.hid (Rg4_7.out.kept b1)
  have Yb_8 := Lib.hid (Yb_7.out.below b1)
  have Sb_8 := Lib.hid (Sb_7.out.below b1)
  have Rg6_8 := Lib.hid (Rg6_7.out.kept b1)
  have Rg8_8 := Lib.hid (Rg8_7.out.kept b1)
  clear ho
  clear b1 B7 HH_7 Ya_7 Sa_7 Rg4_7 Yb_7 Sb_7 Rg6_7 Rg8_7
  go_wp2_with (first
    | ((with_reducible refine wpList_alloc_row (o := ⟨some 10, _, _, _, _, _⟩) rfl 39 rfl (keyC zeroBu.flatten) Try.zeroOfBu ?_); intro g10 x9 n9; have N9 := Lib.hid n9; clear n9)
    | ((with_reducible refine wpList_store_row (o := ⟨none, _, _, _, _, _⟩) rfl 39 (.tmp 10) (.tmp 36) rfl g10 39 (keyC zeroBu.flatten) (keyC K.flatten) ?h1_9 ?h2_9 ?h3_9 ?h4_9 ?h5_9 ?h6_9 ?h7_9); (case h1_9 => with_unfolding_all rfl); (case h2_9 => with_unfolding_all rfl); (case h3_9 => exact N9.out.row); (case h4_9 => rw [zeroBu_ok.size, BuOk.size O3.out]); (case h5_9 => exact Try.sizeBu O3.out); (case h6_9 => exact keyC_one _); intro w9 p9; have L9 := (laid_put N9.out p9).1; have Rg10_9 := Lib.hid p9.row; have B9 := Lib.hid (below_size B8.out L9); have HH_9 := Lib.hid (HH_8.out.below L9); have Ya_9 := Lib.hid (Ya_8.out.below L9); have Sa_9 := Lib.hid (Sa_8.out.below L9); have Rg4_9 := Lib.hid (Rg4_8.out.kept L9); have Yb_9 := Lib.hid (Yb_8.out.below L9); have Sb_9 := Lib.hid (Sb_8.out.below L9); have Rg6_9 := Lib.hid (Rg6_8.out.kept L9); have Rg8_9 := Lib.hid (Rg8_8.out.kept L9); clear L9 p9 N9 B8 HH_8 Ya_8 Sa_8 Rg4_8 Yb_8 Sb_8 Rg6_8 Rg8_8)
    | (with_reducible refine wpList_load_row (o := ⟨some 38, _, _, _, _, _⟩) rfl 28 (.tmp 4) rfl g4 (by with_unfolding_all rfl) 28 (frC F (.slice Aa F.box.length ca) (.slice Da F.sign.length da)) (0, 0) _ (by with_unfolding_all exact Rg4_9.out) Try.underlying28 rfl (Try.sizeFr O1.out _ _) ?_)
    | (with_reducible refine wpList_load_row (o := ⟨some 39, _, _, _, _, _⟩) rfl 28 (.tmp 6) rfl g6 (by with_unfolding_all rfl) 28 (frC F (.slice Ab F.box.length cb) (.slice Db F.sign.length db)) (0, 0) _ (by with_unfolding_all exact Rg6_9.out) Try.underlying28 rfl (Try.sizeFr O2.out _ _) ?_))
  refine (C5.out _ _ _ ⟨_, _, rfl, O1.out, Ya_9.out, Sa_9.out⟩ ⟨_, _, rfl, O2.out, Yb_9.out, Sb_9.out⟩).mono ?_
  intro e w10 hh
  obtain ⟨he, b1⟩ := hh
  subst he
  have B10 := Lib.hid (below_size B9.out b1)
  have HH_10 := Lib.hid (HH_9.out.below b1)
  have Ya_10 := Lib.hid (Ya_9.out.below b1)
  have Sa_10 := Lib.hid (Sa_9.out.below b1)
  have Rg4_10 := Lib.hid (Rg4_9.out.kept b1)
  have Yb_10 := Lib.hid (Yb_9.out.below b1)
  have Sb_10 := Lib.hid (Sb_9.out.below b1)
  have Rg6_10 := Lib.hid (Rg6_9.out.kept b1)
  have Rg8_10 := Lib.hid (Rg8_9.out.kept b1)
  have Rg10_10 := Lib.hid (Rg10_9.out.kept b1)
  clear b1 B9 HH_9 Ya_9 Sa_9 Rg4_9 Yb_9 Sb_9 Rg6_9 Rg8_9 Rg10_9
  have HQ : Hid ((Op.equalIn 10000 39 (.agg (keyC K.flatten)) (.agg (keyC K.flatten))).run Try.prog w10 = .ok true w10) := by show _ = _; rw [Try.eqBu _ K K O3.out O3.out, beq_self_eq_true]
  go_wp2_with (first
    | (with_reducible refine wpListG_load_row (o := ⟨some 51, _, _, _, _, _⟩) 39 (.tmp 8) rfl (by with_unfolding_all rfl) g8 (by with_unfolding_all rfl) 39 (keyC K.flatten) _ (by with_unfolding_all exact Rg8_10.out) Try.underlying39 rfl (Try.sizeBu O3.out) ?_)
    | (with_reducible refine wpListG_load_row (o := ⟨some 52, _, _, _, _, _⟩) 39 (.tmp 10) rfl (by with_unfolding_all rfl) g10 (by with_unfolding_all rfl) 39 (keyC K.flatten) _ (by with_unfolding_all exact Rg10_10.out) Try.underlying39 rfl (Try.sizeBu O3.out) ?_)
    | (with_reducible refine wpListG_val (o := ⟨some 53, _, _, _, _, _⟩) (by with_unfolding_all rfl) (.bool true) (by with_unfolding_all exact eqBu_run .eql (.inl rfl) (.tmp 51) (.tmp 52) _ rfl (keyC K.flatten) (keyC K.flatten) true HQ.out rfl rfl) ?_))
  go_ret
  exact ⟨rfl, B10.out⟩
end Go.Proofs.Ytmhhjdiilmgmoaa
end
section
namespace Go.Proofs.Ytmhhjdiilmgmoaa.frameDecodes
open Go.ChangeShapes Go.WideShapes Go.ChangeAt Go.RowKit
open Go.ChangeMaps (open_string shut_string)
set_option linter.unusedVariables false

theorem own : ownKnob Try.prog.godebug = none := by kernel_rfl
theorem laidOut : laidOutB Try.prog = true := by kernel_rfl

set_option maxRecDepth 100000 in
theorem lifted (os : Os) (started : os.Started) (H : Type) (enc : TypeId × Value → H) :
    ReturnsInHanded {} Try.checked os 4 .any (Rows.frameDecodesSpec.pre6 enc Try.prog Try.f4 Rows.frameDecodesRow.domain false) (Rows.frameDecodesSpec.post enc Try.prog Try.f4 false true false false) := by
  refine returnsInHanded_of_change (C := Try.checked) own started (by kernel_rfl) Try.func4
    (ChangeSpec.witness6 (enc := enc) (C := Try.checked) false ⟨#[], #[.slice none 0 0], []⟩ 8 (by kernel_rfl) (by kernel_rfl) (by kernel_rfl) (by kernel_rfl)) ?_
  intro W base args ds gs before hval0 hW hcnd _
  have hval : ∀ (j : Nat) t v, Try.f4.params[j]? = some t → args[j]? = some v → Value.okWide Try.prog W .any base t v := hval0
  have hW' := hW
  obtain ⟨p, q, hA0, hV, rfl, hfz, hnd⟩ := hW
  have hA : DataW.TrodAll enc Try.prog W 0 (fun _ => true) true Try.f4.params.toList args.toList ds p := hA0
  rw [Try.params4] at hA hval
  obtain ⟨v0, vs0, d0, ds0, p0, q0, hargs, rfl, rfl, h0, r0⟩ := trodAll_cons hA
  obtain ⟨rfl, rfl, rfl⟩ := trodAll_nil r0
  obtain rfl : args = #[v0] := by cases args; simp_all
  obtain ⟨rfl, rfl⟩ := trodVars_none hV
  obtain ⟨a0, len0, cap0, rfl⟩ := okWide_slice Try.underlying25 (hval 0 25 v0 rfl rfl)
  have k0 := h0
  have lt0 : ∀ x ∈ p0, x.block < W.heap.size := by obtain ⟨m, hm⟩ := k0; exact DataW.trod_lt m _ _ _ hm
  obtain ⟨l0, w0⟩ : ∃ l, Bs W (.slice a0 len0 cap0) l := by
    obtain ⟨fuel, hf⟩ := h0
    rcases open_ints Try.underlying25 Try.underlying5 (by kernel_rfl) hf with ⟨hcs, _⟩ | ⟨x, l, c, zs, hcs, _, hl, hm, hz, _, hcell, hwz⟩
    · simp [Value.cells] at hcs
      obtain ⟨rfl, rfl, rfl⟩ := hcs
      exact ⟨[], Bs.nil W⟩
    · simp [Value.cells] at hcs
      obtain ⟨rfl, rfl, rfl⟩ := hcs
      exact bs_of_ints hl hm (by simpa using hz) hcell hwz
  clear hA0 hval0
  refine (frameDecodes_walk W _ l0 w0).mono fun e W' ⟨he, bel⟩ => ?_
  subst he
  exact ⟨_, rfl, _, _, _, [], _, [], hW', trodAll_mk1 (shut_bool Try.underlying4 _), (trodAll_cons_mk (Below.trod laidOut (by kernel_rfl) (of_decide_eq_true (by kernel_rfl)) k0 bel lt0) trodAll_mk0), rfl, bel.frame _, fun h => by cases h⟩

theorem over : Rows.frameDecodesRow.holds Try.pinned (OpenSpec.ofChange Rows.frameDecodesSpec) :=
  OpenClaim.holds_of_wide 4 Try.f4 rfl rfl rfl rfl rfl rfl rfl ⟨rfl, rfl, rfl, rfl, rfl⟩ rfl rfl rfl rfl rfl (by kernel_rfl) Try.func4 (by kernel_rfl)
    (of_decide_eq_true (by kernel_rfl)) (by unfold Func.isWrapper; first | (rw [if_pos (by decide +kernel)]; kernel_rfl) | (rw [if_neg (by decide +kernel)]; exact ⟨rfl, rfl⟩))
    (fun os started H enc _ => lifted os started H enc)

theorem proved : Rows.FrameDecodesSaid := over
#print axioms proved
end Go.Proofs.Ytmhhjdiilmgmoaa.frameDecodes
end
