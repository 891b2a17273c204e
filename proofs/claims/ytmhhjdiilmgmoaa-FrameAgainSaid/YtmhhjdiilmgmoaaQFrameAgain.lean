/-
  FrameAgain: for every input the call returns true, and each argument reads as it read before. Conditions: none beyond the given statement's own.
-/
import Derived.Test.YtmhhjdiilmgmoaaQFrmAN
import Derived.Test.YtmhhjdiilmgmoaaRows
import Derived.OpenShut
import Derived.ShutString
import Derived.ChangeOld
section
namespace Go.Proofs.Ytmhhjdiilmgmoaa
open Go.RowKit
set_option linter.unusedVariables false
set_option maxRecDepth 20000

set_option maxHeartbeats 4000000 in
theorem frameAgain_walk (w : World) (v : Value) (b : List UInt8) (h : Bs w v b) :
    Calls Try.prog 6 #[v] w (RetV w (.bool true)) := by
  have HH_0 := Lib.hid h
  have CA := Lib.hid (fun w => awake_true w)
  have C1 : Hid (∀ w v, Bs w v b → Calls Try.prog 18 #[v] w fun e w' => ∃ u, e = .returned (.tuple #[u, .int .i64 (decE b)]) ∧ FrV w' u (decF b) ∧ Below w.heap.size w w') := fun w v h => decode_any w v b h
  have C2 : Hid (∀ w v, FrV w v (decF b) → Calls Try.prog 14 #[v] w fun e w' => ∃ u, e = .returned (.tuple #[u, .int .i64 (checkE (decF b))]) ∧ Bs w' u (encO (decF b)) ∧ Below w.heap.size w w') := fun w v h => encode_any w v _ h
  have C3 : Hid (b.length ≤ 9000 → ∀ w v, Bs w v b → Calls Try.prog 20 #[v] w fun e w' => e = .returned (.tuple #[.agg (keyC (bdF b).flatten), .int .i64 (bdW b)]) ∧ BuOk (bdF b) ∧ Below w.heap.size w w') := fun hl w v h => decodeBundle_any w v b h (by omega)
  have C4 : Hid (∀ w, BuOk (bdF b) → Calls Try.prog 23 #[.agg (keyC (bdF b).flatten)] w fun e w' => ∃ u, e = .returned u ∧ Bs w' u (bunB (bdF b)) ∧ Below w.heap.size w w') := fun w h => encodeBundle_any w _ h
  have C5 : Hid (∀ w a c, Bs w a b → Bs w c b → Calls Try.prog 17 #[a, c] w (RetV w (.bool true))) := fun w a c h1 h2 => same_yes w a c _ h1 h2
  have HC : Hid ((decE b = 0 ∧ checkE (decF b) = 0 ∧ encO (decF b) = b ∧ bdW b ≠ 0) ∨ (decE b ≠ 0 ∧ bdW b ≠ 0) ∨ (decE b ≠ 0 ∧ bdW b = 0 ∧ bunB (bdF b) = b)) := by
    by_cases hd : decE b = 0
    · refine .inl ⟨hd, ?_, enc_dec hd, dec_no_bundle hd⟩
      have h4 := (rdM_of_dec hd).2.2.2.1
      unfold decF
      rw [if_pos hd]
      exact h4
    · by_cases hw : bdW b = 0
      · exact .inr (.inr ⟨hd, hw, bun_dec hw⟩)
      · exact .inr (.inl ⟨hd, hw⟩)
  obtain ⟨F, hF⟩ : ∃ F, F = decF b := ⟨_, rfl⟩
  obtain ⟨E, hE⟩ : ∃ E, E = decE b := ⟨_, rfl⟩
  obtain ⟨K, hK⟩ : ∃ K, K = bdF b := ⟨_, rfl⟩
  obtain ⟨W, hW⟩ : ∃ W, W = bdW b := ⟨_, rfl⟩
  obtain ⟨G, hG⟩ : ∃ G, G = checkE F := ⟨_, rfl⟩
  obtain ⟨M, hM⟩ : ∃ M, M = encO F := ⟨_, rfl⟩
  obtain ⟨D, hD⟩ : ∃ D, D = bunB K := ⟨_, rfl⟩
  rw [← hF, ← hE] at C1
  rw [← hF, ← hG, ← hM] at C2
  rw [← hK, ← hW] at C3
  rw [← hK, ← hD] at C4
  rw [← hF, ← hE, ← hG, ← hM, ← hK, ← hW, ← hD] at HC
  clear hF hE hK hW hG hM hD
  obtain ⟨A, c, rfl, _, q2, _⟩ := h
  unfold maxLen at q2
  have hl1 : b.length ≤ 9223372036854775807 := by omega
  clear q2
  by_cases a0 : 9000 < b.length
  · have d0 : decide (9000 < (b.length : Int)) = true := by simp; omega
    clear a0 C1 C2 C3 C4 C5 HC
    go_enter Try.func6, Try.ntmps6
    go_wp2_with fail
    refine (CA.out _).mono ?_
    intro e w1 hh
    obtain ⟨he, b1⟩ := hh
    subst he
    have B1 := Lib.hid b1
    clear b1
    go_wp2
    go_ret
    exact ⟨rfl, B1.out⟩
  have d0 : decide (9000 < (b.length : Int)) = false := by simp; omega
  have HL : Hid (b.length ≤ 9000) := by show _ ≤ _; omega
  clear a0
  rcases HC.out with ⟨x1, x2, x3, x4⟩ | ⟨x1, x2⟩ | ⟨x1, x2, x3⟩
  · rw [x1] at C1
    rw [x2, x3] at C2
    have d1 : (W != 0) = true := by simpa using x4
    have d2 : (W == 0) = false := by simpa using x4
    clear x1 x2 x3 x4 HC
    go_enter Try.func6, Try.ntmps6
    go_wp2_with fail
    refine (CA.out _).mono ?_
    intro e w1 hh
    obtain ⟨he, b1⟩ := hh
    subst he
    have B1 := Lib.hid (b1)
    have HH_1 := Lib.hid (HH_0.out.below b1)
    clear b1 HH_0
    go_wp2_with fail
    refine (C1.out _ _ HH_1.out).mono ?_
    intro e w2 hh
    obtain ⟨u, he, hu, b1⟩ := hh
    subst he
    have B2 := Lib.hid (below_size B1.out b1)
    have HH_2 := Lib.hid (HH_1.out.below b1)
    obtain ⟨bu, su, rfl, ho, hb, hs⟩ := hu
    have O1 := Lib.hid ho
    have Ya_2 := Lib.hid hb
    have Sa_2 := Lib.hid hs
    obtain ⟨Aa, ca, rfl, _⟩ := hb
    obtain ⟨Da, da, rfl, _⟩ := hs
    clear ho
    clear b1 B1 HH_1
    go_wp2_with (first
      | ((with_reducible refine wpList_alloc_row (o := ⟨some 4, _, _, _, _, _⟩) rfl 28 rfl (frC zeroFr nilS nilS) Try.zeroOfFr ?_); intro g4 x3 n3; have N3 := Lib.hid n3; clear n3)
      | ((with_reducible refine wpList_store_row (o := ⟨none, _, _, _, _, _⟩) rfl 28 (.tmp 4) (.tmp 19) rfl g4 28 (frC zeroFr nilS nilS) (frC F (.slice Aa F.box.length ca) (.slice Da F.sign.length da)) ?h1_3_1 ?h2_3_1 ?h3_3_1 ?h4_3_1 ?h5_3_1 ?h6_3_1 ?h7_3_1); (case h1_3_1 => with_unfolding_all rfl); (case h2_3_1 => with_unfolding_all rfl); (case h3_3_1 => exact N3.out.row); (case h4_3_1 => rw [frC_size zeroFr_ok, frC_size O1.out]); (case h5_3_1 => exact Try.sizeFr O1.out _ _); (case h6_3_1 => exact frC_one _ _ _ rfl rfl); intro w3 p3; have L3 := (laid_put N3.out p3).1; have Rg4_3 := Lib.hid p3.row; have B3 := Lib.hid (below_size B2.out L3); have HH_3 := Lib.hid (HH_2.out.below L3); have Ya_3 := Lib.hid (Ya_2.out.below L3); have Sa_3 := Lib.hid (Sa_2.out.below L3); clear L3 p3 N3 B2 HH_2 Ya_2 Sa_2)
      | (with_reducible refine wpList_load_row (o := ⟨some 22, _, _, _, _, _⟩) rfl 28 (.tmp 4) rfl g4 (by with_unfolding_all rfl) 28 (frC F (.slice Aa F.box.length ca) (.slice Da F.sign.length da)) (0, 0) _ (by with_unfolding_all exact Rg4_3.out) Try.underlying28 rfl (Try.sizeFr O1.out _ _) ?_))
    refine (C2.out _ _ ⟨_, _, rfl, O1.out, Ya_3.out, Sa_3.out⟩).mono ?_
    intro e w4 hh
    obtain ⟨u, he, hu, b1⟩ := hh
    subst he
    have B4 := Lib.hid (below_size B3.out b1)
    have HH_4 := Lib.hid (HH_3.out.below b1)
    have Ya_4 := Lib.hid (Ya_3.out.below b1)
    have Sa_4 := Lib.hid (Sa_3.out.below b1)
    have Rg4_4 := Lib.hid (Rg4_3.out.kept b1)
    have Yc_4 := Lib.hid hu
    obtain ⟨_, _, rfl, _⟩ := hu
    clear b1 B3 HH_3 Ya_3 Sa_3 Rg4_3
    go_wp2_with fail
    refine (C3.out HL.out _ _ HH_4.out).mono ?_
    intro e w5 hh
    obtain ⟨he, ho, b1⟩ := hh
    subst he
    have B5 := Lib.hid (below_size B4.out b1)
    have HH_5 := Lib.hid (HH_4.out.below b1)
    have Ya_5 := Lib.hid (Ya_4.out.below b1)
    have Sa_5 := Lib.hid (Sa_4.out.below b1)
    have Rg4_5 := Lib.hid (Rg4_4.out.kept b1)
    have Yc_5 := Lib.hid (Yc_4.out.below b1)
    have O3 := Lib.hid ho
    clear ho
    clear b1 B4 HH_4 Ya_4 Sa_4 Rg4_4 Yc_4
    go_wp2_with (first
      | ((with_reducible refine wpList_alloc_row (o := ⟨some 8, _, _, _, _, _⟩) rfl 39 rfl (keyC zeroBu.flatten) Try.zeroOfBu ?_); intro g8 x6 n6; have N6 := Lib.hid n6; clear n6)
      | ((with_reducible refine wpList_store_row (o := ⟨none, _, _, _, _, _⟩) rfl 39 (.tmp 8) (.tmp 29) rfl g8 39 (keyC zeroBu.flatten) (keyC K.flatten) ?h1_6_1 ?h2_6_1 ?h3_6_1 ?h4_6_1 ?h5_6_1 ?h6_6_1 ?h7_6_1); (case h1_6_1 => with_unfolding_all rfl); (case h2_6_1 => with_unfolding_all rfl); (case h3_6_1 => exact N6.out.row); (case h4_6_1 => rw [zeroBu_ok.size, BuOk.size O3.out]); (case h5_6_1 => exact Try.sizeBu O3.out); (case h6_6_1 => exact keyC_one _); intro w6 p6; have L6 := (laid_put N6.out p6).1; have Rg8_6 := Lib.hid p6.row; have B6 := Lib.hid (below_size B5.out L6); have HH_6 := Lib.hid (HH_5.out.below L6); have Ya_6 := Lib.hid (Ya_5.out.below L6); have Sa_6 := Lib.hid (Sa_5.out.below L6); have Rg4_6 := Lib.hid (Rg4_5.out.kept L6); have Yc_6 := Lib.hid (Yc_5.out.below L6); clear L6 p6 N6 B5 HH_5 Ya_5 Sa_5 Rg4_5 Yc_5)
      | (with_reducible refine wpList_load_row (o := ⟨some 31, _, _, _, _, _⟩) rfl 39 (.tmp 8) rfl g8 (by with_unfolding_all rfl) 39 (keyC K.flatten) (0, 0) _ (by with_unfolding_all exact Rg8_6.out) Try.underlying39 rfl (Try.sizeBu O3.out) ?_))
    refine (C4.out _ O3.out).mono ?_
    intro e w7 hh
    obtain ⟨u, he, hu, b1⟩ := hh
    subst he
    have B7 := Lib.hid (below_size B6.out b1)
    have HH_7 := Lib.hid (HH_6.out.below b1)
    have Ya_7 := Lib.hid (Ya_6.out.below b1)
    have Sa_7 := Lib.hid (Sa_6.out.below b1)
    have Rg4_7 := Lib.hid (Rg4_6.out.kept b1)
    have Yc_7 := Lib.hid (Yc_6.out.below b1)
    have Rg8_7 := Lib.hid (Rg8_6.out.kept b1)
    have Yd_7 := Lib.hid hu
    obtain ⟨_, _, rfl, _⟩ := hu
    clear b1 B6 HH_6 Ya_6 Sa_6 Rg4_6 Yc_6 Rg8_6
    go_wp2_with fail
    refine (C5.out _ _ _ HH_7.out Yc_7.out).mono ?_
    intro e w8 hh
    obtain ⟨he, b1⟩ := hh
    subst he
    have B8 := Lib.hid (below_size B7.out b1)
    have HH_8 := Lib.hid (HH_7.out.below b1)
    have Ya_8 := Lib.hid (Ya_7.out.below b1)
    have Sa_8 := Lib.hid (Sa_7.out.below b1)
    have Rg4_8 := Lib.hid (Rg4_7.out.kept b1)
    have Yc_8 := Lib.hid (Yc_7.out.below b1)
    have Rg8_8 := Lib.hid (Rg8_7.out.kept b1)
    have Yd_8 := Lib.hid (Yd_7.out.below b1)
    clear b1 B7 HH_7 Ya_7 Sa_7 Rg4_7 Yc_7 Rg8_7 Yd_7
    go_wp2
    go_ret
    exact ⟨rfl, B8.out⟩
  · have d1 : (W != 0) = true := by simpa using x2
    have d2 : (W == 0) = false := by simpa using x2
    have d3 : (E == 0) = false := by simpa using x1
    clear x1 x2 HC
    go_enter Try.func6, Try.ntmps6
    go_wp2_with fail
    refine (CA.out _).mono ?_
    intro e w1 hh
    obtain ⟨he, b1⟩ := hh
    subst he
    have B1 := Lib.hid (b1)
    have HH_1 := Lib.hid (HH_0.out.below b1)
    clear b1 HH_0
    go_wp2_with fail
    refine (C1.out _ _ HH_1.out).mono ?_
    intro e w2 hh
    obtain ⟨u, he, hu, b1⟩ := hh
    subst he
    have B2 := Lib.hid (below_size B1.out b1)
    have HH_2 := Lib.hid (HH_1.out.below b1)
    obtain ⟨bu, su, rfl, ho, hb, hs⟩ := hu
    have O1 := Lib.hid ho
    have Ya_2 := Lib.hid hb
    have Sa_2 := Lib.hid hs
    obtain ⟨Aa, ca, rfl, _⟩ := hb
    obtain ⟨Da, da, rfl, _⟩ := hs
    clear ho
    clear b1 B1 HH_1
    go_wp2_with (first
      | ((with_reducible refine wpList_alloc_row (o := ⟨some 4, _, _, _, _, _⟩) rfl 28 rfl (frC zeroFr nilS nilS) Try.zeroOfFr ?_); intro g4 x3 n3; have N3 := Lib.hid n3; clear n3)
      | ((with_reducible refine wpList_store_row (o := ⟨none, _, _, _, _, _⟩) rfl 28 (.tmp 4) (.tmp 19) rfl g4 28 (frC zeroFr nilS nilS) (frC F (.slice Aa F.box.length ca) (.slice Da F.sign.length da)) ?h1_3_2 ?h2_3_2 ?h3_3_2 ?h4_3_2 ?h5_3_2 ?h6_3_2 ?h7_3_2); (case h1_3_2 => with_unfolding_all rfl); (case h2_3_2 => with_unfolding_all rfl); (case h3_3_2 => exact N3.out.row); (case h4_3_2 => rw [frC_size zeroFr_ok, frC_size O1.out]); (case h5_3_2 => exact Try.sizeFr O1.out _ _); (case h6_3_2 => exact frC_one _ _ _ rfl rfl); intro w3 p3; have L3 := (laid_put N3.out p3).1; have Rg4_3 := Lib.hid p3.row; have B3 := Lib.hid (below_size B2.out L3); have HH_3 := Lib.hid (HH_2.out.below L3); have Ya_3 := Lib.hid (Ya_2.out.below L3); have Sa_3 := Lib.hid (Sa_2.out.below L3); clear L3 p3 N3 B2 HH_2 Ya_2 Sa_2)
      | (with_reducible refine wpList_load_row (o := ⟨some 22, _, _, _, _, _⟩) rfl 28 (.tmp 4) rfl g4 (by with_unfolding_all rfl) 28 (frC F (.slice Aa F.box.length ca) (.slice Da F.sign.length da)) (0, 0) _ (by with_unfolding_all exact Rg4_3.out) Try.underlying28 rfl (Try.sizeFr O1.out _ _) ?_))
    refine (C2.out _ _ ⟨_, _, rfl, O1.out, Ya_3.out, Sa_3.out⟩).mono ?_
    intro e w4 hh
    obtain ⟨u, he, hu, b1⟩ := hh
    subst he
    have B4 := Lib.hid (below_size B3.out b1)
    have HH_4 := Lib.hid (HH_3.out.below b1)
    have Ya_4 := Lib.hid (Ya_3.out.below b1)
    have Sa_4 := Lib.hid (Sa_3.out.below b1)
    have Rg4_4 := Lib.hid (Rg4_3.out.kept b1)
    have Yc_4 := Lib.hid hu
    obtain ⟨_, _, rfl, _⟩ := hu
    clear b1 B3 HH_3 Ya_3 Sa_3 Rg4_3
    go_wp2_with fail
    refine (C3.out HL.out _ _ HH_4.out).mono ?_
    intro e w5 hh
    obtain ⟨he, ho, b1⟩ := hh
    subst he
    have B5 := Lib.hid (below_size B4.out b1)
    have HH_5 := Lib.hid (HH_4.out.below b1)
    have Ya_5 := Lib.hid (Ya_4.out.below b1)
    have Sa_5 := Lib.hid (Sa_4.out.below b1)
    have Rg4_5 := Lib.hid (Rg4_4.out.kept b1)
    have Yc_5 := Lib.hid (Yc_4.out.below b1)
    have O3 := Lib.hid ho
    clear ho
    clear b1 B4 HH_4 Ya_4 Sa_4 Rg4_4 Yc_4
    go_wp2_with (first
      | ((with_reducible refine wpList_alloc_row (o := ⟨some 8, _, _, _, _, _⟩) rfl 39 rfl (keyC zeroBu.flatten) Try.zeroOfBu ?_); intro g8 x6 n6; have N6 := Lib.hid n6; clear n6)
      | ((with_reducible refine wpList_store_row (o := ⟨none, _, _, _, _, _⟩) rfl 39 (.tmp 8) (.tmp 29) rfl g8 39 (keyC zeroBu.flatten) (keyC K.flatten) ?h1_6_2 ?h2_6_2 ?h3_6_2 ?h4_6_2 ?h5_6_2 ?h6_6_2 ?h7_6_2); (case h1_6_2 => with_unfolding_all rfl); (case h2_6_2 => with_unfolding_all rfl); (case h3_6_2 => exact N6.out.row); (case h4_6_2 => rw [zeroBu_ok.size, BuOk.size O3.out]); (case h5_6_2 => exact Try.sizeBu O3.out); (case h6_6_2 => exact keyC_one _); intro w6 p6; have L6 := (laid_put N6.out p6).1; have Rg8_6 := Lib.hid p6.row; have B6 := Lib.hid (below_size B5.out L6); have HH_6 := Lib.hid (HH_5.out.below L6); have Ya_6 := Lib.hid (Ya_5.out.below L6); have Sa_6 := Lib.hid (Sa_5.out.below L6); have Rg4_6 := Lib.hid (Rg4_5.out.kept L6); have Yc_6 := Lib.hid (Yc_5.out.below L6); clear L6 p6 N6 B5 HH_5 Ya_5 Sa_5 Rg4_5 Yc_5)
      | (with_reducible refine wpList_load_row (o := ⟨some 31, _, _, _, _, _⟩) rfl 39 (.tmp 8) rfl g8 (by with_unfolding_all rfl) 39 (keyC K.flatten) (0, 0) _ (by with_unfolding_all exact Rg8_6.out) Try.underlying39 rfl (Try.sizeBu O3.out) ?_))
    refine (C4.out _ O3.out).mono ?_
    intro e w7 hh
    obtain ⟨u, he, hu, b1⟩ := hh
    subst he
    have B7 := Lib.hid (below_size B6.out b1)
    have HH_7 := Lib.hid (HH_6.out.below b1)
    have Ya_7 := Lib.hid (Ya_6.out.below b1)
    have Sa_7 := Lib.hid (Sa_6.out.below b1)
    have Rg4_7 := Lib.hid (Rg4_6.out.kept b1)
    have Yc_7 := Lib.hid (Yc_6.out.below b1)
    have Rg8_7 := Lib.hid (Rg8_6.out.kept b1)
    have Yd_7 := Lib.hid hu
    obtain ⟨_, _, rfl, _⟩ := hu
    clear b1 B6 HH_6 Ya_6 Sa_6 Rg4_6 Yc_6 Rg8_6
    go_wp2
    go_ret
    exact ⟨rfl, B7.out⟩
  · have d3 : (E == 0) = false := by simpa using x1
    rw [x2] at C3
    rw [x3] at C4
    clear x1 x2 x3 HC
    go_enter Try.func6, Try.ntmps6
    go_wp2_with fail
    refine (CA.out _).mono ?_
    intro e w1 hh
    obtain ⟨he, b1⟩ := hh
    subst he
    have B1 := Lib.hid (b1)
    have HH_1 := Lib.hid (HH_0.out.below b1)
    clear b1 HH_0
    go_wp2_with fail
    refine (C1.out _ _ HH_1.out).mono ?_
    intro e w2 hh
    obtain ⟨u, he, hu, b1⟩ := hh
    subst he
    have B2 := Lib.hid (below_size B1.out b1)
    have HH_2 := Lib.hid (HH_1.out.below b1)
    obtain ⟨bu, su, rfl, ho, hb, hs⟩ := hu
    have O1 := Lib.hid ho
    have Ya_2 := Lib.hid hb
    have Sa_2 := Lib.hid hs
    obtain ⟨Aa, ca, rfl, _⟩ := hb
    obtain ⟨Da, da, rfl, _⟩ := hs
    clear ho
    clear b1 B1 HH_1
    go_wp2_with (first
      | ((with_reducible refine wpList_alloc_row (o := ⟨some 4, _, _, _, _, _⟩) rfl 28 rfl (frC zeroFr nilS nilS) Try.zeroOfFr ?_); intro g4 x3 n3; have N3 := Lib.hid n3; clear n3)
      | ((with_reducible refine wpList_store_row (o := ⟨none, _, _, _, _, _⟩) rfl 28 (.tmp 4) (.tmp 19) rfl g4 28 (frC zeroFr nilS nilS) (frC F (.slice Aa F.box.length ca) (.slice Da F.sign.length da)) ?h1_3_3 ?h2_3_3 ?h3_3_3 ?h4_3_3 ?h5_3_3 ?h6_3_3 ?h7_3_3); (case h1_3_3 => with_unfolding_all rfl); (case h2_3_3 => with_unfolding_all rfl); (case h3_3_3 => exact N3.out.row); (case h4_3_3 => rw [frC_size zeroFr_ok, frC_size O1.out]); (case h5_3_3 => exact Try.sizeFr O1.out _ _); (case h6_3_3 => exact frC_one _ _ _ rfl rfl); intro w3 p3; have L3 := (laid_put N3.out p3).1; have Rg4_3 := Lib.hid p3.row; have B3 := Lib.hid (below_size B2.out L3); have HH_3 := Lib.hid (HH_2.out.below L3); have Ya_3 := Lib.hid (Ya_2.out.below L3); have Sa_3 := Lib.hid (Sa_2.out.below L3); clear L3 p3 N3 B2 HH_2 Ya_2 Sa_2)
      | (with_reducible refine wpList_load_row (o := ⟨some 22, _, _, _, _, _⟩) rfl 28 (.tmp 4) rfl g4 (by with_unfolding_all rfl) 28 (frC F (.slice Aa F.box.length ca) (.slice Da F.sign.length da)) (0, 0) _ (by with_unfolding_all exact Rg4_3.out) Try.underlying28 rfl (Try.sizeFr O1.out _ _) ?_))
    refine (C2.out _ _ ⟨_, _, rfl, O1.out, Ya_3.out, Sa_3.out⟩).mono ?_
    intro e w4 hh
    obtain ⟨u, he, hu, b1⟩ := hh
    subst he
    have B4 := Lib.hid (below_size B3.out b1)
    have HH_4 := Lib.hid (HH_3.out.below b1)
    have Ya_4 := Lib.hid (Ya_3.out.below b1)
    have Sa_4 := Lib.hid (Sa_3.out.below b1)
    have Rg4_4 := Lib.hid (Rg4_3.out.kept b1)
    have Yc_4 := Lib.hid hu
    obtain ⟨_, _, rfl, _⟩ := hu
    clear b1 B3 HH_3 Ya_3 Sa_3 Rg4_3
    go_wp2_with fail
    refine (C3.out HL.out _ _ HH_4.out).mono ?_
    intro e w5 hh
    obtain ⟨he, ho, b1⟩ := hh
    subst he
    have B5 := Lib.hid (below_size B4.out b1)
    have HH_5 := Lib.hid (HH_4.out.below b1)
    have Ya_5 := Lib.hid (Ya_4.out.below b1)
    have Sa_5 := Lib.hid (Sa_4.out.below b1)
    have Rg4_5 := Lib.hid (Rg4_4.out.kept b1)
    have Yc_5 := Lib.hid (Yc_4.out.below b1)
    have O3 := Lib.hid ho
    clear ho
    clear b1 B4 HH_4 Ya_4 Sa_4 Rg4_4 Yc_4
    go_wp2_with (first
      | ((with_reducible refine wpList_alloc_row (o := ⟨some 8, _, _, _, _, _⟩) rfl 39 rfl (keyC zeroBu.flatten) Try.zeroOfBu ?_); intro g8 x6 n6; have N6 := Lib.hid n6; clear n6)
      | ((with_reducible refine wpList_store_row (o := ⟨none, _, _, _, _, _⟩) rfl 39 (.tmp 8) (.tmp 29) rfl g8 39 (keyC zeroBu.flatten) (keyC K.flatten) ?h1_6_3 ?h2_6_3 ?h3_6_3 ?h4_6_3 ?h5_6_3 ?h6_6_3 ?h7_6_3); (case h1_6_3 => with_unfolding_all rfl); (case h2_6_3 => with_unfolding_all rfl); (case h3_6_3 => exact N6.out.row); (case h4_6_3 => rw [zeroBu_ok.size, BuOk.size O3.out]); (case h5_6_3 => exact Try.sizeBu O3.out); (case h6_6_3 => exact keyC_one _); intro w6 p6; have L6 := (laid_put N6.out p6).1; have Rg8_6 := Lib.hid p6.row; have B6 := Lib.hid (below_size B5.out L6); have HH_6 := Lib.hid (HH_5.out.below L6); have Ya_6 := Lib.hid (Ya_5.out.below L6); have Sa_6 := Lib.hid (Sa_5.out.below L6); have Rg4_6 := Lib.hid (Rg4_5.out.kept L6); have Yc_6 := Lib.hid (Yc_5.out.below L6); clear L6 p6 N6 B5 HH_5 Ya_5 Sa_5 Rg4_5 Yc_5)
      | (with_reducible refine wpList_load_row (o := ⟨some 31, _, _, _, _, _⟩) rfl 39 (.tmp 8) rfl g8 (by with_unfolding_all rfl) 39 (keyC K.flatten) (0, 0) _ (by with_unfolding_all exact Rg8_6.out) Try.underlying39 rfl (Try.sizeBu O3.out) ?_))
    refine (C4.out _ O3.out).mono ?_
    intro e w7 hh
    obtain ⟨u, he, hu, b1⟩ := hh
    subst he
    have B7 := Lib.hid (below_size B6.out b1)
    have HH_7 := Lib.hid (HH_6.out.below b1)
    have Ya_7 := Lib.hid (Ya_6.out.below b1)
    have Sa_7 := Lib.hid (Sa_6.out.below b1)
    have Rg4_7 := Lib.hid (Rg4_6.out.kept b1)
    have Yc_7 := Lib.hid (Yc_6.out.below b1)
    have Rg8_7 := Lib.hid (Rg8_6.out.kept b1)
    have Yd_7 := Lib.hid hu
    obtain ⟨_, _, rfl, _⟩ := hu
    clear b1 B6 HH_6 Ya_6 Sa_6 Rg4_6 Yc_6 Rg8_6
    go_wp2_with fail
    refine (C5.out _ _ _ HH_7.out Yd_7.out).mono ?_
    intro e w8 hh
    obtain ⟨he, b1⟩ := hh
    subst he
    have B8 := Lib.hid (below_size B7.out b1)
    have HH_8 := Lib.hid (HH_7.out.below b1)
    have Ya_8 := Lib.hid (Ya_7.out.below b1)
    have Sa_8 := Lib.hid (Sa_7.out.below b1)
    have Rg4_8 := Lib.hid (Rg4_7.out.kept b1)
    have Yc_8 := Lib.hid (Yc_7.out.below b1)
    have Rg8_8 := Lib.hid (Rg8_7.out.kept b1)
    have Yd_8 := Lib.hid (Yd_7.out.below b1)
    clear b1 B7 HH_7 Ya_7 Sa_7 Rg4_7 Yc_7 Rg8_7 Yd_7
    go_wp2
    go_ret
    exact ⟨rfl, B8.out⟩
end Go.Proofs.Ytmhhjdiilmgmoaa
end
section
namespace Go.Proofs.Ytmhhjdiilmgmoaa.frameAgain
open Go.ChangeShapes Go.WideShapes Go.ChangeAt Go.RowKit
open Go.ChangeMaps (open_string shut_string)
set_option linter.unusedVariables false

theorem own : ownKnob Try.prog.godebug = none := by kernel_rfl
theorem laidOut : laidOutB Try.prog = true := by kernel_rfl

set_option maxRecDepth 100000 in
theorem lifted (os : Os) (started : os.Started) (H : Type) (enc : TypeId × Value → H) :
    ReturnsInHanded {} Try.checked os 6 .any (Rows.frameAgainSpec.pre6 enc Try.prog Try.f6 Rows.frameAgainRow.domain false) (Rows.frameAgainSpec.post enc Try.prog Try.f6 false true false false) := by
  refine returnsInHanded_of_change (C := Try.checked) own started (by kernel_rfl) Try.func6
    (ChangeSpec.witness6 (enc := enc) (C := Try.checked) false ⟨#[], #[.slice none 0 0], []⟩ 8 (by kernel_rfl) (by kernel_rfl) (by kernel_rfl) (by kernel_rfl)) ?_
  intro W base args ds gs before hval0 hW hcnd _
  have hval : ∀ (j : Nat) t v, Try.f6.params[j]? = some t → args[j]? = some v → Value.okWide Try.prog W .any base t v := hval0
  have hW' := hW
  obtain ⟨p, q, hA0, hV, rfl, hfz, hnd⟩ := hW
  have hA : DataW.TrodAll enc Try.prog W 0 (fun _ => true) true Try.f6.params.toList args.toList ds p := hA0
  rw [Try.params6] at hA hval
  obtain ⟨v0, vs0, d0, ds0, p0, q0, hargs, rfl, rfl, h0, r0⟩ := trodAll_cons hA
  obtain ⟨rfl, rfl, rfl⟩ := trodAll_nil r0
  obtain rfl : args = #[v0] := by cases args; simp_all
  obtain ⟨rfl, rfl⟩ := trodVars_none hV
  obtain ⟨a0, len0, cap0, rfl⟩ := okWide_slice Try.underlying25 (hval 0 25 v0 rfl rfl)
  have k0 := h0
  have lt0 : ∀ x ∈ p0, x.block < W.heap.size := by obtain ⟨m, hm⟩ := k0; exact DataW.trod_lt m _ _ _ hm
  obtain ⟨l0, w0⟩ : ∃ l, Bs W (.slice a0 len0 cap0) l := by
    obtain ⟨fuel, hf⟩ := h0
    rcases open_ints Try.underlying25 Try.underlying5 (by kernel_rfl) hf with ⟨hcs, _⟩ | ⟨x, l, c, zs, hcs, _, hl, hm, hz, _, hcell, hwz⟩
    · simp [Value.cells] at hcs
      obtain ⟨rfl, rfl, rfl⟩ := hcs
      exact ⟨[], Bs.nil W⟩
    · simp [Value.cells] at hcs
      obtain ⟨rfl, rfl, rfl⟩ := hcs
      exact bs_of_ints hl hm (by simpa using hz) hcell hwz
  clear hA0 hval0
  refine (frameAgain_walk W _ l0 w0).mono fun e W' ⟨he, bel⟩ => ?_
  subst he
  exact ⟨_, rfl, _, _, _, [], _, [], hW', trodAll_mk1 (shut_bool Try.underlying4 _), (trodAll_cons_mk (Below.trod laidOut (by kernel_rfl) (of_decide_eq_true (by kernel_rfl)) k0 bel lt0) trodAll_mk0), rfl, bel.frame _, fun h => by cases h⟩

theorem over : Rows.frameAgainRow.holds Try.pinned (OpenSpec.ofChange Rows.frameAgainSpec) :=
  OpenClaim.holds_of_wide 6 Try.f6 rfl rfl rfl rfl rfl rfl rfl ⟨rfl, rfl, rfl, rfl, rfl⟩ rfl rfl rfl rfl rfl (by kernel_rfl) Try.func6 (by kernel_rfl)
    (of_decide_eq_true (by kernel_rfl)) (by unfold Func.isWrapper; first | (rw [if_pos (by decide +kernel)]; kernel_rfl) | (rw [if_neg (by decide +kernel)]; exact ⟨rfl, rfl⟩))
    (fun os started H enc _ => lifted os started H enc)

theorem proved : Rows.FrameAgainSaid := over
#print axioms proved
end Go.Proofs.Ytmhhjdiilmgmoaa.frameAgain
end
