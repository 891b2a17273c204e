/-
  FrameBundles: for every input the call returns true, and each argument reads as it read before. Conditions: none beyond the given statement's own.
-/
import Derived.Test.YtmhhjdiilmgmoaaQFrmAN
import Derived.Test.YtmhhjdiilmgmoaaRows
import Derived.OpenShut
import Derived.ShutString
import Derived.ChangeOld
section
namespace Go.Proofs.Ytmhhjdiilmgmoaa
open Go.RowKit
set_option linter.unusedVariables false
set_option maxRecDepth 20000

theorem bun_same {K J : List (List UInt8)} (h : BuOk K) (k : BuOk J) : (bunB K == bunB J) = (K == J) := by
  rw [Bool.eq_iff_iff, beq_iff_eq, beq_iff_eq]
  exact ⟨bunB_inj h k, fun e => by rw [e]⟩
set_option maxHeartbeats 8000000 in
theorem frameBundles_walk (w : World) (K : List (List UInt8)) (hK : BuOk K) (J : List (List UInt8)) (hJ : BuOk J) (left : Int) (hleft : -9223372036854775808 ≤ left ∧ left ≤ 9223372036854775807) :
    Calls Try.prog 8 #[buV K, buV J, .int .i64 left] w (RetV w (.bool true)) := by
  unfold buV
  have O1 := Lib.hid hK
  have O2 := Lib.hid hJ
  have CA := Lib.hid (fun w => awake_true w)
  obtain ⟨L, hL⟩ : ∃ L, L = bunB K := ⟨_, rfl⟩
  obtain ⟨M, hM⟩ : ∃ M, M = bunB J := ⟨_, rfl⟩
  obtain ⟨D, hD⟩ : ∃ D, D = decE L := ⟨_, rfl⟩
  obtain ⟨r, hr⟩ : ∃ r, r = (K == J) := ⟨_, rfl⟩
  have LN : Hid (L.length = 131) := by rw [hL]; exact bunB_length hK
  have DN : D ≠ 0 := by rw [hD, hL]; exact bun_no_frame hK
  have C1 : Hid (∀ w, Calls Try.prog 23 #[.agg (keyC K.flatten)] w fun e w' => ∃ u, e = .returned u ∧ Bs w' u L ∧ Below w.heap.size w w') := fun w => by rw [hL]; exact encodeBundle_any w K hK
  have C2 : Hid (∀ w, Calls Try.prog 23 #[.agg (keyC J.flatten)] w fun e w' => ∃ u, e = .returned u ∧ Bs w' u M ∧ Below w.heap.size w w') := fun w => by rw [hM]; exact encodeBundle_any w J hJ
  have C3 : Hid (∀ w v, Bs w v L → Calls Try.prog 20 #[v] w fun e w' => e = .returned (.tuple #[.agg (keyC K.flatten), .int .i64 0]) ∧ Below w.heap.size w w') := fun w v h => (decodeBundle_any w v L h (by rw [LN.out]; omega)).mono fun e w' ⟨he, _, hb⟩ => ⟨by rw [hL, (bd_enc hK).1, (bd_enc hK).2] at he; exact he, hb⟩
  have C4 : Hid (∀ w v, Bs w v (L ++ [0]) → Calls Try.prog 20 #[v] w fun e w' => (∃ Q, BuOk Q ∧ e = .returned (.tuple #[.agg (keyC Q.flatten), .int .i64 50])) ∧ Below w.heap.size w w') := fun w v h => (decodeBundle_any w v _ h (by rw [List.length_append, LN.out]; simp)).mono fun e w' ⟨he, hq, hb⟩ => ⟨⟨_, hq, by rw [show bdW (L ++ [0]) = 50 by rw [hL]; exact bd_more hK 0] at he; exact he⟩, hb⟩
  have C5 : Hid (∀ n, n < L.length → ∀ w v, Bs w v (L.take n) → Calls Try.prog 20 #[v] w fun e w' => (∃ Q, BuOk Q ∧ e = .returned (.tuple #[.agg (keyC Q.flatten), .int .i64 3])) ∧ Below w.heap.size w w') := fun n hn w v h => (decodeBundle_any w v _ h (by rw [List.length_take, LN.out]; omega)).mono fun e w' ⟨he, hq, hb⟩ => ⟨⟨_, hq, by rw [show bdW (L.take n) = 3 by rw [hL] at hn ⊢; exact bd_less hK n hn] at he; exact he⟩, hb⟩
  have C6 : Hid (∀ w v, Bs w v L → Calls Try.prog 18 #[v] w fun e w' => ∃ u, e = .returned (.tuple #[u, .int .i64 D]) ∧ FrV w' u (decF L) ∧ Below w.heap.size w w') := fun w v h => by rw [hD]; exact decode_any w v L h
  have C7 : Hid (∀ w a b, Bs w a L → Bs w b M → Calls Try.prog 17 #[a, b] w (RetV w (.bool r))) := fun w a b h1 h2 => by rw [hr, ← bun_same hK hJ, ← hL, ← hM]; exact same_ret w a b _ _ h1 h2
  have QQ : Hid (∀ w, (Op.equalIn 10000 39 (.agg (keyC K.flatten)) (.agg (keyC K.flatten))).run Try.prog w = .ok true w) := fun w => by rw [Try.eqBu w K K hK hK, beq_self_eq_true]
  have QR : Hid (∀ w, (Op.equalIn 10000 39 (.agg (keyC K.flatten)) (.agg (keyC J.flatten))).run Try.prog w = .ok r w) := fun w => by rw [Try.eqBu w K J hK hJ, hr]
  obtain ⟨F, hF⟩ : ∃ F, F = decF L := ⟨_, rfl⟩
  rw [← hF] at C6
  have d1 : (D == 0) = false := by simpa using DN
  clear hL hM hD hr DN hF hK hJ
  by_cases a0 : left < 0
  · have d2 : decide (left < 0) = true := by simp; omega
    clear a0 C5
    go_enter Try.func8, Try.ntmps8
    go_wp2_with (first
      | ((with_reducible refine wpList_box_row (o := ⟨some 3, _, _, _, _, _⟩) rfl 39 (.tmp 0) rfl (keyC K.flatten) (by with_unfolding_all rfl) ?_); intro g3 w1 n1; have Rg3_1 := Lib.hid n1.row; have B1 := Lib.hid (n1.below); clear n1)
      | ((with_reducible refine wpList_box_row (o := ⟨some 4, _, _, _, _, _⟩) rfl 39 (.tmp 1) rfl (keyC J.flatten) (by with_unfolding_all rfl) ?_); intro g4 w2 n2; have Rg4_2 := Lib.hid n2.row; have B2 := Lib.hid (below_size B1.out n2.below); have Rg3_2 := Lib.hid (Rg3_1.out.kept n2.below); clear n2 B1 Rg3_1))
    refine (CA.out _).mono ?_
    intro e w3 hh
    obtain ⟨he, b1⟩ := hh
    subst he
    have B3 := Lib.hid (below_size B2.out b1)
    have Rg3_3 := Lib.hid (Rg3_2.out.kept b1)
    have Rg4_3 := Lib.hid (Rg4_2.out.kept b1)
    clear b1 B2 Rg3_2 Rg4_2
    go_wp2_with (first
      | (with_reducible refine wpList_load_row (o := ⟨some 19, _, _, _, _, _⟩) rfl 39 (.tmp 3) rfl g3 (by with_unfolding_all rfl) 39 (keyC K.flatten) (0, 0) _ (by with_unfolding_all exact Rg3_3.out) Try.underlying39 rfl (Try.sizeBu O1.out) ?_))
    refine (C1.out _).mono ?_
    intro e w4 hh
    obtain ⟨u, he, hu, b1⟩ := hh
    subst he
    have B4 := Lib.hid (below_size B3.out b1)
    have Rg3_4 := Lib.hid (Rg3_3.out.kept b1)
    have Rg4_4 := Lib.hid (Rg4_3.out.kept b1)
    have Va_4 := Lib.hid hu
    obtain ⟨aA, cA, rfl, _, qA, _⟩ := hu
    unfold maxLen at qA
    clear b1 B3 Rg3_3 Rg4_3
    go_wp2_with (first
      | (with_reducible refine wpList_load_row (o := ⟨some 21, _, _, _, _, _⟩) rfl 39 (.tmp 4) rfl g4 (by with_unfolding_all rfl) 39 (keyC J.flatten) (0, 0) _ (by with_unfolding_all exact Rg4_4.out) Try.underlying39 rfl (Try.sizeBu O2.out) ?_))
    refine (C2.out _).mono ?_
    intro e w5 hh
    obtain ⟨u, he, hu, b1⟩ := hh
    subst he
    have B5 := Lib.hid (below_size B4.out b1)
    have Rg3_5 := Lib.hid (Rg3_4.out.kept b1)
    have Rg4_5 := Lib.hid (Rg4_4.out.kept b1)
    have Va_5 := Lib.hid (Va_4.out.below b1)
    have Vb_5 := Lib.hid hu
    obtain ⟨aB, cB, rfl, _⟩ := hu
    clear b1 B4 Rg3_4 Rg4_4 Va_4
    go_wp2_with fail
    refine (C3.out _ _ Va_5.out).mono ?_
    intro e w6 hh
    obtain ⟨he, b1⟩ := hh
    subst he
    have B6 := Lib.hid (below_size B5.out b1)
    have Rg3_6 := Lib.hid (Rg3_5.out.kept b1)
    have Rg4_6 := Lib.hid (Rg4_5.out.kept b1)
    have Va_6 := Lib.hid (Va_5.out.below b1)
    have Vb_6 := Lib.hid (Vb_5.out.below b1)
    clear b1 B5 Rg3_5 Rg4_5 Va_5 Vb_5
    go_wp2_with (first
      | ((with_reducible refine wpList_alloc_row (o := ⟨some 10, _, _, _, _, _⟩) rfl 39 rfl (keyC zeroBu.flatten) Try.zeroOfBu ?_); intro g10 x7 n7; have N7 := Lib.hid n7; clear n7)
      | ((with_reducible refine wpList_store_row (o := ⟨none, _, _, _, _, _⟩) rfl 39 (.tmp 10) (.tmp 26) rfl g10 39 (keyC zeroBu.flatten) (keyC K.flatten) ?h1_7_1 ?h2_7_1 ?h3_7_1 ?h4_7_1 ?h5_7_1 ?h6_7_1 ?h7_7_1); (case h1_7_1 => with_unfolding_all rfl); (case h2_7_1 => with_unfolding_all rfl); (case h3_7_1 => exact N7.out.row); (case h4_7_1 => rw [zeroBu_ok.size, BuOk.size O1.out]); (case h5_7_1 => exact Try.sizeBu O1.out); (case h6_7_1 => exact keyC_one _); intro w7 p7; have L7 := (laid_put N7.out p7).1; have Rg10_7 := Lib.hid p7.row; have B7 := Lib.hid (below_size B6.out L7); have Rg3_7 := Lib.hid (Rg3_6.out.kept L7); have Rg4_7 := Lib.hid (Rg4_6.out.kept L7); have Va_7 := Lib.hid (Va_6.out.below L7); have Vb_7 := Lib.hid (Vb_6.out.below L7); clear L7 p7 N7 B6 Rg3_6 Rg4_6 Va_6 Vb_6)
      | ((with_reducible refine wpList_appB _ (o := ⟨some 31, _, _, _, _, _⟩) rfl (.tmp 29) (.tmp 30) 25 rfl w7 5 (by kernel_rfl) Try.underlying25 (.slice (some ⟨w7.heap.size, 0, none⟩) 0 0) (.slice aA L.length cA) [] L (by with_unfolding_all rfl) (by with_unfolding_all rfl) (by with_unfolding_all exact lit_ownF w7 [] #[] rfl (by simp [maxLen])) (Va_7.out.below (alloc_below _ _)) (by simp [LN.out]) (alloc_below _ _) ?_); intro va xa oa ba; have OA := Lib.hid oa; have BA := Lib.hid ba; clear oa ba)
      | ((with_reducible refine wpList_appB _ (o := ⟨some 33, _, _, _, _, _⟩) rfl (.tmp 31) (.tmp 32) 25 rfl w7 5 (by kernel_rfl) Try.underlying25 va (.slice (some ⟨xa.heap.size, 0, none⟩) 1 1) ([] ++ L) [0] (by with_unfolding_all rfl) (by with_unfolding_all rfl) (OA.out.alloc _) (by with_unfolding_all exact Bs.lit xa 5 [0] #[.int .u8 0] rfl (by simp [maxLen])) (by simp [LN.out]) (below_size BA.out (alloc_below _ _)) ?_); intro vz w8 oz bz; rw [List.nil_append] at oz; have Vc_8 := Lib.hid oz.bs; have B8 := Lib.hid (below_size B7.out bz); have Rg3_8 := Lib.hid (Rg3_7.out.kept bz); have Rg4_8 := Lib.hid (Rg4_7.out.kept bz); have Va_8 := Lib.hid (Va_7.out.below bz); have Vb_8 := Lib.hid (Vb_7.out.below bz); have Rg10_8 := Lib.hid (Rg10_7.out.kept bz); clear bz oz OA BA B7 Rg3_7 Rg4_7 Va_7 Vb_7 Rg10_7))
    refine (C4.out _ _ Vc_8.out).mono ?_
    intro e w9 hh
    obtain ⟨⟨Q, hq, he⟩, b1⟩ := hh
    subst he
    have B9 := Lib.hid (below_size B8.out b1)
    have Rg3_9 := Lib.hid (Rg3_8.out.kept b1)
    have Rg4_9 := Lib.hid (Rg4_8.out.kept b1)
    have Va_9 := Lib.hid (Va_8.out.below b1)
    have Vb_9 := Lib.hid (Vb_8.out.below b1)
    have Rg10_9 := Lib.hid (Rg10_8.out.kept b1)
    have Vc_9 := Lib.hid (Vc_8.out.below b1)
    have O3 := Lib.hid hq
    clear hq
    clear b1 B8 Rg3_8 Rg4_8 Va_8 Vb_8 Rg10_8 Vc_8
    go_wp2_with (first
      | ((with_reducible refine wpList_alloc_row (o := ⟨some 12, _, _, _, _, _⟩) rfl 39 rfl (keyC zeroBu.flatten) Try.zeroOfBu ?_); intro g12 x10 n10; have N10 := Lib.hid n10; clear n10)
      | ((with_reducible refine wpList_store_row (o := ⟨none, _, _, _, _, _⟩) rfl 39 (.tmp 12) (.tmp 35) rfl g12 39 (keyC zeroBu.flatten) (keyC Q.flatten) ?h1_10_1 ?h2_10_1 ?h3_10_1 ?h4_10_1 ?h5_10_1 ?h6_10_1 ?h7_10_1); (case h1_10_1 => with_unfolding_all rfl); (case h2_10_1 => with_unfolding_all rfl); (case h3_10_1 => exact N10.out.row); (case h4_10_1 => rw [zeroBu_ok.size, BuOk.size O3.out]); (case h5_10_1 => exact Try.sizeBu O3.out); (case h6_10_1 => exact keyC_one _); intro w10 p10; have L10 := (laid_put N10.out p10).1; have Rg12_10 := Lib.hid p10.row; have B10 := Lib.hid (below_size B9.out L10); have Rg3_10 := Lib.hid (Rg3_9.out.kept L10); have Rg4_10 := Lib.hid (Rg4_9.out.kept L10); have Va_10 := Lib.hid (Va_9.out.below L10); have Vb_10 := Lib.hid (Vb_9.out.below L10); have Rg10_10 := Lib.hid (Rg10_9.out.kept L10); have Vc_10 := Lib.hid (Vc_9.out.below L10); clear L10 p10 N10 B9 Rg3_9 Rg4_9 Va_9 Vb_9 Rg10_9 Vc_9))
    refine (C6.out _ _ Va_10.out).mono ?_
    intro e w11 hh
    obtain ⟨u, he, hu, b1⟩ := hh
    subst he
    have B11 := Lib.hid (below_size B10.out b1)
    have Rg3_11 := Lib.hid (Rg3_10.out.kept b1)
    have Rg4_11 := Lib.hid (Rg4_10.out.kept b1)
    have Va_11 := Lib.hid (Va_10.out.below b1)
    have Vb_11 := Lib.hid (Vb_10.out.below b1)
    have Rg10_11 := Lib.hid (Rg10_10.out.kept b1)
    have Vc_11 := Lib.hid (Vc_10.out.below b1)
    have Rg12_11 := Lib.hid (Rg12_10.out.kept b1)
    obtain ⟨bu, su, rfl, ho, hb, hs⟩ := hu
    have O4 := Lib.hid ho
    obtain ⟨Ad, cd, rfl, _⟩ := hb
    obtain ⟨Dd, dd, rfl, _⟩ := hs
    clear ho
    clear b1 B10 Rg3_10 Rg4_10 Va_10 Vb_10 Rg10_10 Vc_10 Rg12_10
    go_wp2_with (first
      | ((with_reducible refine wpList_alloc_row (o := ⟨some 14, _, _, _, _, _⟩) rfl 28 rfl (frC zeroFr nilS nilS) Try.zeroOfFr ?_); intro g14 x12 n12; have N12 := Lib.hid n12; clear n12)
      | ((with_reducible refine wpList_store_row (o := ⟨none, _, _, _, _, _⟩) rfl 28 (.tmp 14) (.tmp 40) rfl g14 28 (frC zeroFr nilS nilS) (frC F (.slice Ad F.box.length cd) (.slice Dd F.sign.length dd)) ?h1_12_1 ?h2_12_1 ?h3_12_1 ?h4_12_1 ?h5_12_1 ?h6_12_1 ?h7_12_1); (case h1_12_1 => with_unfolding_all rfl); (case h2_12_1 => with_unfolding_all rfl); (case h3_12_1 => exact N12.out.row); (case h4_12_1 => rw [frC_size zeroFr_ok, frC_size O4.out]); (case h5_12_1 => exact Try.sizeFr O4.out _ _); (case h6_12_1 => exact frC_one _ _ _ rfl rfl); intro w12 p12; have L12 := (laid_put N12.out p12).1; have Rg14_12 := Lib.hid p12.row; have B12 := Lib.hid (below_size B11.out L12); have Rg3_12 := Lib.hid (Rg3_11.out.kept L12); have Rg4_12 := Lib.hid (Rg4_11.out.kept L12); have Va_12 := Lib.hid (Va_11.out.below L12); have Vb_12 := Lib.hid (Vb_11.out.below L12); have Rg10_12 := Lib.hid (Rg10_11.out.kept L12); have Vc_12 := Lib.hid (Vc_11.out.below L12); have Rg12_12 := Lib.hid (Rg12_11.out.kept L12); clear L12 p12 N12 B11 Rg3_11 Rg4_11 Va_11 Vb_11 Rg10_11 Vc_11 Rg12_11))
    have hS : Below w12.heap.size w12 w12.drew := (Below.refl _ _).drew
    refine plain_region (S := fun w' => Below w12.heap.size w12 w') (fin := fun _ => false) (by kernel_rfl) ?_
    refine walkS_take (i := 0) (oi := ⟨some 42, _, _, _, _, _⟩) (v := .int .i64 0) rfl (by kernel_rfl) (by kernel_rfl) (fun _ _ _ h => h) _ _ _ _ (by kernel_rfl) (by kernel_rfl) (Or.inl ⟨by rfl, fun w' hS' => (by clear hS hS'; go_simp)⟩) hS ?_
    try simp only [Act.put, List.setIfInBounds_toArray, List.set_cons_zero, List.set_cons_succ]
    refine walkS_take (i := 1) (oi := ⟨some 43, _, _, _, _, _⟩) (v := .bool false) rfl (by kernel_rfl) (by kernel_rfl) (fun _ _ _ h => h) _ _ _ _ (by kernel_rfl) (by kernel_rfl) (Or.inl ⟨by rfl, fun w' hS' => (by clear hS hS'; go_simp)⟩) hS ?_
    try simp only [Act.put, List.setIfInBounds_toArray, List.set_cons_zero, List.set_cons_succ]
    refine walkS_take (i := 2) (oi := ⟨some 44, _, _, _, _, _⟩) (v := .bool false) rfl (by kernel_rfl) (by kernel_rfl) (fun _ _ _ h => h) _ _ _ _ (by kernel_rfl) (by kernel_rfl) (Or.inl ⟨by rfl, fun w' hS' => (by clear hS hS'; go_simp)⟩) hS ?_
    try simp only [Act.put, List.setIfInBounds_toArray, List.set_cons_zero, List.set_cons_succ]
    refine walkS_take (i := 3) (oi := ⟨some 45, _, _, _, _, _⟩) (v := .agg (keyC K.flatten)) rfl (by kernel_rfl) (by kernel_rfl) (fun _ _ _ h => h) _ _ _ _ (by kernel_rfl) (by kernel_rfl) (Or.inl ⟨by rfl, fun w' hS' => (by exact run_load_row 39 (.tmp 10) (by with_unfolding_all rfl) g10 (by with_unfolding_all rfl) 39 (keyC K.flatten) (0, 0) _ (Rg10_12.out.kept hS') Try.underlying39 rfl (Try.sizeBu O1.out))⟩) hS ?_
    try simp only [Act.put, List.setIfInBounds_toArray, List.set_cons_zero, List.set_cons_succ]
    refine walkS_take (i := 4) (oi := ⟨some 46, _, _, _, _, _⟩) (v := .agg (keyC K.flatten)) rfl (by kernel_rfl) (by kernel_rfl) (fun _ _ _ h => h) _ _ _ _ (by kernel_rfl) (by kernel_rfl) (Or.inl ⟨by rfl, fun w' hS' => (by exact run_load_row 39 (.tmp 3) (by with_unfolding_all rfl) g3 (by with_unfolding_all rfl) 39 (keyC K.flatten) (0, 0) _ (Rg3_12.out.kept hS') Try.underlying39 rfl (Try.sizeBu O1.out))⟩) hS ?_
    try simp only [Act.put, List.setIfInBounds_toArray, List.set_cons_zero, List.set_cons_succ]
    refine walkS_take (i := 5) (oi := ⟨some 47, _, _, _, _, _⟩) (v := .bool false) rfl (by kernel_rfl) (by kernel_rfl) (fun _ _ _ h => h) _ _ _ _ (by kernel_rfl) (by kernel_rfl) (Or.inl ⟨by rfl, fun w' hS' => (by with_unfolding_all exact eqBu_run .neq (.inr rfl) (.tmp 45) (.tmp 46) _ rfl (keyC K.flatten) (keyC K.flatten) true (QQ.out _) rfl rfl)⟩) hS ?_
    try simp only [Act.put, List.setIfInBounds_toArray, List.set_cons_zero, List.set_cons_succ]
    refine walkS_take (i := 6) (oi := ⟨some 48, _, _, _, _, _⟩) (v := .bool false) rfl (by kernel_rfl) (by kernel_rfl) (fun _ _ _ h => h) _ _ _ _ (by kernel_rfl) (by kernel_rfl) (Or.inl ⟨by rfl, fun w' hS' => (by clear hS hS'; go_simp)⟩) hS ?_
    try simp only [Act.put, List.setIfInBounds_toArray, List.set_cons_zero, List.set_cons_succ]
    refine walkS_take (i := 7) (oi := ⟨some 49, _, _, _, _, _⟩) (v := .bool false) rfl (by kernel_rfl) (by kernel_rfl) (fun _ _ _ h => h) _ _ _ _ (by kernel_rfl) (by kernel_rfl) (Or.inl ⟨by rfl, fun w' hS' => (by clear hS hS'; go_simp)⟩) hS ?_
    try simp only [Act.put, List.setIfInBounds_toArray, List.set_cons_zero, List.set_cons_succ]
    refine walkS_take (i := 8) (oi := ⟨some 50, _, _, _, _, _⟩) (v := .int .i64 50) rfl (by kernel_rfl) (by kernel_rfl) (fun _ _ _ h => h) _ _ _ _ (by kernel_rfl) (by kernel_rfl) (Or.inl ⟨by rfl, fun w' hS' => (by clear hS hS'; go_simp)⟩) hS ?_
    try simp only [Act.put, List.setIfInBounds_toArray, List.set_cons_zero, List.set_cons_succ]
    refine walkS_take (i := 9) (oi := ⟨some 51, _, _, _, _, _⟩) (v := .bool false) rfl (by kernel_rfl) (by kernel_rfl) (fun _ _ _ h => h) _ _ _ _ (by kernel_rfl) (by kernel_rfl) (Or.inl ⟨by rfl, fun w' hS' => (by clear hS hS'; go_simp)⟩) hS ?_
    try simp only [Act.put, List.setIfInBounds_toArray, List.set_cons_zero, List.set_cons_succ]
    refine walkS_take (i := 10) (oi := ⟨some 52, _, _, _, _, _⟩) (v := .bool false) rfl (by kernel_rfl) (by kernel_rfl) (fun _ _ _ h => h) _ _ _ _ (by kernel_rfl) (by kernel_rfl) (Or.inl ⟨by rfl, fun w' hS' => (by clear hS hS'; go_simp)⟩) hS ?_
    try simp only [Act.put, List.setIfInBounds_toArray, List.set_cons_zero, List.set_cons_succ]
    refine walkS_take (i := 11) (oi := ⟨some 53, _, _, _, _, _⟩) (v := .bool false) rfl (by kernel_rfl) (by kernel_rfl) (fun _ _ _ h => h) _ _ _ _ (by kernel_rfl) (by kernel_rfl) (Or.inl ⟨by rfl, fun w' hS' => (by clear hS hS'; go_simp)⟩) hS ?_
    try simp only [Act.put, List.setIfInBounds_toArray, List.set_cons_zero, List.set_cons_succ]
    refine walkS_take (i := 12) (oi := ⟨some 54, _, _, _, _, _⟩) (v := .int .i64 D) rfl (by kernel_rfl) (by kernel_rfl) (fun _ _ _ h => h) _ _ _ _ (by kernel_rfl) (by kernel_rfl) (Or.inl ⟨by rfl, fun w' hS' => (by clear hS hS'; go_simp)⟩) hS ?_
    try simp only [Act.put, List.setIfInBounds_toArray, List.set_cons_zero, List.set_cons_succ]
    refine walkS_take (i := 13) (oi := ⟨some 55, _, _, _, _, _⟩) (v := .bool false) rfl (by kernel_rfl) (by kernel_rfl) (fun _ _ _ h => h) _ _ _ _ (by kernel_rfl) (by kernel_rfl) (Or.inl ⟨by rfl, fun w' hS' => (by clear hS hS'; go_simp)⟩) hS ?_
    try simp only [Act.put, List.setIfInBounds_toArray, List.set_cons_zero, List.set_cons_succ]
    refine walkS_take (i := 14) (oi := ⟨some 56, _, _, _, _, _⟩) (v := .bool false) rfl (by kernel_rfl) (by kernel_rfl) (fun _ _ _ h => h) _ _ _ _ (by kernel_rfl) (by kernel_rfl) (Or.inl ⟨by rfl, fun w' hS' => (by clear hS hS'; go_simp)⟩) hS ?_
    try simp only [Act.put, List.setIfInBounds_toArray, List.set_cons_zero, List.set_cons_succ]
    refine walkS_take (i := 15) (oi := ⟨some 57, _, _, _, _, _⟩) (v := .bool false) rfl (by kernel_rfl) (by kernel_rfl) (fun _ _ _ h => h) _ _ _ _ (by kernel_rfl) (by kernel_rfl) (Or.inl ⟨by rfl, fun w' hS' => (by clear hS hS'; go_simp)⟩) hS ?_
    try simp only [Act.put, List.setIfInBounds_toArray, List.set_cons_zero, List.set_cons_succ]
    refine walkS_take (i := 16) (oi := ⟨some 58, _, _, _, _, _⟩) (v := .slice aA L.length cA) rfl (by kernel_rfl) (by kernel_rfl) (fun _ _ _ h => h) _ _ _ _ (by kernel_rfl) (by kernel_rfl) (Or.inl ⟨by rfl, fun w' hS' => (by clear hS hS'; go_simp)⟩) hS ?_
    try simp only [Act.put, List.setIfInBounds_toArray, List.set_cons_zero, List.set_cons_succ]
    refine walkS_take (i := 17) (oi := ⟨some 59, _, _, _, _, _⟩) (v := .slice aB M.length cB) rfl (by kernel_rfl) (by kernel_rfl) (fun _ _ _ h => h) _ _ _ _ (by kernel_rfl) (by kernel_rfl) (Or.inl ⟨by rfl, fun w' hS' => (by clear hS hS'; go_simp)⟩) hS ?_
    try simp only [Act.put, List.setIfInBounds_toArray, List.set_cons_zero, List.set_cons_succ]
    refine walkS_take (i := 19) (oi := ⟨some 61, _, _, _, _, _⟩) (v := .agg (keyC K.flatten)) rfl (by kernel_rfl) (by kernel_rfl) (fun _ _ _ h => h) _ _ _ _ (by kernel_rfl) (by kernel_rfl) (Or.inl ⟨by rfl, fun w' hS' => (by exact run_load_row 39 (.tmp 3) (by with_unfolding_all rfl) g3 (by with_unfolding_all rfl) 39 (keyC K.flatten) (0, 0) _ (Rg3_12.out.kept hS') Try.underlying39 rfl (Try.sizeBu O1.out))⟩) hS ?_
    try simp only [Act.put, List.setIfInBounds_toArray, List.set_cons_zero, List.set_cons_succ]
    refine walkS_take (i := 20) (oi := ⟨some 62, _, _, _, _, _⟩) (v := .agg (keyC J.flatten)) rfl (by kernel_rfl) (by kernel_rfl) (fun _ _ _ h => h) _ _ _ _ (by kernel_rfl) (by kernel_rfl) (Or.inl ⟨by rfl, fun w' hS' => (by exact run_load_row 39 (.tmp 4) (by with_unfolding_all rfl) g4 (by with_unfolding_all rfl) 39 (keyC J.flatten) (0, 0) _ (Rg4_12.out.kept hS') Try.underlying39 rfl (Try.sizeBu O2.out))⟩) hS ?_
    try simp only [Act.put, List.setIfInBounds_toArray, List.set_cons_zero, List.set_cons_succ]
    refine walkS_take (i := 21) (oi := ⟨some 63, _, _, _, _, _⟩) (v := .bool r) rfl (by kernel_rfl) (by kernel_rfl) (fun _ _ _ h => h) _ _ _ _ (by kernel_rfl) (by kernel_rfl) (Or.inl ⟨by rfl, fun w' hS' => (by with_unfolding_all exact eqBu_run .eql (.inl rfl) (.tmp 61) (.tmp 62) _ rfl (keyC K.flatten) (keyC J.flatten) r (QR.out _) rfl rfl)⟩) hS ?_
    try simp only [Act.put, List.setIfInBounds_toArray, List.set_cons_zero, List.set_cons_succ]
    refine walkS_onlyH (i := 18) (o := ⟨some 60, _, _, _, _, _⟩) (by kernel_rfl) rfl (by rfl) fun KK hKK => ?_
    go_simp
    refine (C7.out _ _ _ (Va_12.out.below hS) (Vb_12.out.below hS)).mono ?_
    intro e wq hh
    obtain ⟨he, bq⟩ := hh
    subst he
    have hS2 := below_size hS bq
    refine hKK _ _ (.inr hS2) ?_
    clear hKK KK hS bq
    try simp only [Act.put, List.setIfInBounds_toArray, List.set_cons_zero, List.set_cons_succ]
    refine walkS_take (i := 22) (oi := ⟨some 64, _, _, _, _, _⟩) (v := .bool false) rfl (by kernel_rfl) (by kernel_rfl) (fun _ _ _ h => h) _ _ _ _ (by kernel_rfl) (by kernel_rfl) (Or.inl ⟨by rfl, fun w' hS' => (by clear hS2 hS'; cases r <;> go_simp)⟩) hS2 ?_
    try simp only [Act.put, List.setIfInBounds_toArray, List.set_cons_zero, List.set_cons_succ]
    refine walkS_take (i := 23) (oi := ⟨some 65, _, _, _, _, _⟩) (v := .bool false) rfl (by kernel_rfl) (by kernel_rfl) (fun _ _ _ h => h) _ _ _ _ (by kernel_rfl) (by kernel_rfl) (Or.inl ⟨by rfl, fun w' hS' => (by clear hS2 hS'; go_simp)⟩) hS2 ?_
    try simp only [Act.put, List.setIfInBounds_toArray, List.set_cons_zero, List.set_cons_succ]
    refine walkS_done (by kernel_rfl) ?_ _
    have B13 := Lib.hid (below_size B12.out hS2)
    have Rg3_13 := Lib.hid (Rg3_12.out.kept hS2)
    have Rg4_13 := Lib.hid (Rg4_12.out.kept hS2)
    have Va_13 := Lib.hid (Va_12.out.below hS2)
    have Vb_13 := Lib.hid (Vb_12.out.below hS2)
    have Rg10_13 := Lib.hid (Rg10_12.out.kept hS2)
    have Vc_13 := Lib.hid (Vc_12.out.below hS2)
    have Rg12_13 := Lib.hid (Rg12_12.out.kept hS2)
    have Rg14_13 := Lib.hid (Rg14_12.out.kept hS2)
    clear hS2 B12 Rg3_12 Rg4_12 Va_12 Vb_12 Rg10_12 Vc_12 Rg12_12 Rg14_12

    go_wp2
    go_ret
    exact ⟨rfl, B13.out⟩
  · have d2 : decide (left < 0) = false := by simp; omega
    obtain ⟨n, rfl⟩ : ∃ n : Nat, left = n := ⟨left.toNat, by omega⟩
    by_cases a1 : L.length ≤ n
    · have d3 : decide (L.length ≤ n) = true := by simp; omega
      have d4 : L.length ≤ n := a1
      clear a0 a1 C5
      go_enter Try.func8, Try.ntmps8
      go_wp2_with (first
        | ((with_reducible refine wpList_box_row (o := ⟨some 3, _, _, _, _, _⟩) rfl 39 (.tmp 0) rfl (keyC K.flatten) (by with_unfolding_all rfl) ?_); intro g3 w1 n1; have Rg3_1 := Lib.hid n1.row; have B1 := Lib.hid (n1.below); clear n1)
        | ((with_reducible refine wpList_box_row (o := ⟨some 4, _, _, _, _, _⟩) rfl 39 (.tmp 1) rfl (keyC J.flatten) (by with_unfolding_all rfl) ?_); intro g4 w2 n2; have Rg4_2 := Lib.hid n2.row; have B2 := Lib.hid (below_size B1.out n2.below); have Rg3_2 := Lib.hid (Rg3_1.out.kept n2.below); clear n2 B1 Rg3_1))
      refine (CA.out _).mono ?_
      intro e w3 hh
      obtain ⟨he, b1⟩ := hh
      subst he
      have B3 := Lib.hid (below_size B2.out b1)
      have Rg3_3 := Lib.hid (Rg3_2.out.kept b1)
      have Rg4_3 := Lib.hid (Rg4_2.out.kept b1)
      clear b1 B2 Rg3_2 Rg4_2
      go_wp2_with (first
        | (with_reducible refine wpList_load_row (o := ⟨some 19, _, _, _, _, _⟩) rfl 39 (.tmp 3) rfl g3 (by with_unfolding_all rfl) 39 (keyC K.flatten) (0, 0) _ (by with_unfolding_all exact Rg3_3.out) Try.underlying39 rfl (Try.sizeBu O1.out) ?_))
      refine (C1.out _).mono ?_
      intro e w4 hh
      obtain ⟨u, he, hu, b1⟩ := hh
      subst he
      have B4 := Lib.hid (below_size B3.out b1)
      have Rg3_4 := Lib.hid (Rg3_3.out.kept b1)
      have Rg4_4 := Lib.hid (Rg4_3.out.kept b1)
      have Va_4 := Lib.hid hu
      obtain ⟨aA, cA, rfl, _, qA, _⟩ := hu
      unfold maxLen at qA
      clear b1 B3 Rg3_3 Rg4_3
      go_wp2_with (first
        | (with_reducible refine wpList_load_row (o := ⟨some 21, _, _, _, _, _⟩) rfl 39 (.tmp 4) rfl g4 (by with_unfolding_all rfl) 39 (keyC J.flatten) (0, 0) _ (by with_unfolding_all exact Rg4_4.out) Try.underlying39 rfl (Try.sizeBu O2.out) ?_))
      refine (C2.out _).mono ?_
      intro e w5 hh
      obtain ⟨u, he, hu, b1⟩ := hh
      subst he
      have B5 := Lib.hid (below_size B4.out b1)
      have Rg3_5 := Lib.hid (Rg3_4.out.kept b1)
      have Rg4_5 := Lib.hid (Rg4_4.out.kept b1)
      have Va_5 := Lib.hid (Va_4.out.below b1)
      have Vb_5 := Lib.hid hu
      obtain ⟨aB, cB, rfl, _⟩ := hu
      clear b1 B4 Rg3_4 Rg4_4 Va_4
      go_wp2_with fail
      refine (C3.out _ _ Va_5.out).mono ?_
      intro e w6 hh
      obtain ⟨he, b1⟩ := hh
      subst he
      have B6 := Lib.hid (below_size B5.out b1)
      have Rg3_6 := Lib.hid (Rg3_5.out.kept b1)
      have Rg4_6 := Lib.hid (Rg4_5.out.kept b1)
      have Va_6 := Lib.hid (Va_5.out.below b1)
      have Vb_6 := Lib.hid (Vb_5.out.below b1)
      clear b1 B5 Rg3_5 Rg4_5 Va_5 Vb_5
      go_wp2_with (first
        | ((with_reducible refine wpList_alloc_row (o := ⟨some 10, _, _, _, _, _⟩) rfl 39 rfl (keyC zeroBu.flatten) Try.zeroOfBu ?_); intro g10 x7 n7; have N7 := Lib.hid n7; clear n7)
        | ((with_reducible refine wpList_store_row (o := ⟨none, _, _, _, _, _⟩) rfl 39 (.tmp 10) (.tmp 26) rfl g10 39 (keyC zeroBu.flatten) (keyC K.flatten) ?h1_7_2 ?h2_7_2 ?h3_7_2 ?h4_7_2 ?h5_7_2 ?h6_7_2 ?h7_7_2); (case h1_7_2 => with_unfolding_all rfl); (case h2_7_2 => with_unfolding_all rfl); (case h3_7_2 => exact N7.out.row); (case h4_7_2 => rw [zeroBu_ok.size, BuOk.size O1.out]); (case h5_7_2 => exact Try.sizeBu O1.out); (case h6_7_2 => exact keyC_one _); intro w7 p7; have L7 := (laid_put N7.out p7).1; have Rg10_7 := Lib.hid p7.row; have B7 := Lib.hid (below_size B6.out L7); have Rg3_7 := Lib.hid (Rg3_6.out.kept L7); have Rg4_7 := Lib.hid (Rg4_6.out.kept L7); have Va_7 := Lib.hid (Va_6.out.below L7); have Vb_7 := Lib.hid (Vb_6.out.below L7); clear L7 p7 N7 B6 Rg3_6 Rg4_6 Va_6 Vb_6)
        | ((with_reducible refine wpList_appB _ (o := ⟨some 31, _, _, _, _, _⟩) rfl (.tmp 29) (.tmp 30) 25 rfl w7 5 (by kernel_rfl) Try.underlying25 (.slice (some ⟨w7.heap.size, 0, none⟩) 0 0) (.slice aA L.length cA) [] L (by with_unfolding_all rfl) (by with_unfolding_all rfl) (by with_unfolding_all exact lit_ownF w7 [] #[] rfl (by simp [maxLen])) (Va_7.out.below (alloc_below _ _)) (by simp [LN.out]) (alloc_below _ _) ?_); intro va xa oa ba; have OA := Lib.hid oa; have BA := Lib.hid ba; clear oa ba)
        | ((with_reducible refine wpList_appB _ (o := ⟨some 33, _, _, _, _, _⟩) rfl (.tmp 31) (.tmp 32) 25 rfl w7 5 (by kernel_rfl) Try.underlying25 va (.slice (some ⟨xa.heap.size, 0, none⟩) 1 1) ([] ++ L) [0] (by with_unfolding_all rfl) (by with_unfolding_all rfl) (OA.out.alloc _) (by with_unfolding_all exact Bs.lit xa 5 [0] #[.int .u8 0] rfl (by simp [maxLen])) (by simp [LN.out]) (below_size BA.out (alloc_below _ _)) ?_); intro vz w8 oz bz; rw [List.nil_append] at oz; have Vc_8 := Lib.hid oz.bs; have B8 := Lib.hid (below_size B7.out bz); have Rg3_8 := Lib.hid (Rg3_7.out.kept bz); have Rg4_8 := Lib.hid (Rg4_7.out.kept bz); have Va_8 := Lib.hid (Va_7.out.below bz); have Vb_8 := Lib.hid (Vb_7.out.below bz); have Rg10_8 := Lib.hid (Rg10_7.out.kept bz); clear bz oz OA BA B7 Rg3_7 Rg4_7 Va_7 Vb_7 Rg10_7))
      refine (C4.out _ _ Vc_8.out).mono ?_
      intro e w9 hh
      obtain ⟨⟨Q, hq, he⟩, b1⟩ := hh
      subst he
      have B9 := Lib.hid (below_size B8.out b1)
      have Rg3_9 := Lib.hid (Rg3_8.out.kept b1)
      have Rg4_9 := Lib.hid (Rg4_8.out.kept b1)
      have Va_9 := Lib.hid (Va_8.out.below b1)
      have Vb_9 := Lib.hid (Vb_8.out.below b1)
      have Rg10_9 := Lib.hid (Rg10_8.out.kept b1)
      have Vc_9 := Lib.hid (Vc_8.out.below b1)
      have O3 := Lib.hid hq
      clear hq
      clear b1 B8 Rg3_8 Rg4_8 Va_8 Vb_8 Rg10_8 Vc_8
      go_wp2_with (first
        | ((with_reducible refine wpList_alloc_row (o := ⟨some 12, _, _, _, _, _⟩) rfl 39 rfl (keyC zeroBu.flatten) Try.zeroOfBu ?_); intro g12 x10 n10; have N10 := Lib.hid n10; clear n10)
        | ((with_reducible refine wpList_store_row (o := ⟨none, _, _, _, _, _⟩) rfl 39 (.tmp 12) (.tmp 35) rfl g12 39 (keyC zeroBu.flatten) (keyC Q.flatten) ?h1_10_2 ?h2_10_2 ?h3_10_2 ?h4_10_2 ?h5_10_2 ?h6_10_2 ?h7_10_2); (case h1_10_2 => with_unfolding_all rfl); (case h2_10_2 => with_unfolding_all rfl); (case h3_10_2 => exact N10.out.row); (case h4_10_2 => rw [zeroBu_ok.size, BuOk.size O3.out]); (case h5_10_2 => exact Try.sizeBu O3.out); (case h6_10_2 => exact keyC_one _); intro w10 p10; have L10 := (laid_put N10.out p10).1; have Rg12_10 := Lib.hid p10.row; have B10 := Lib.hid (below_size B9.out L10); have Rg3_10 := Lib.hid (Rg3_9.out.kept L10); have Rg4_10 := Lib.hid (Rg4_9.out.kept L10); have Va_10 := Lib.hid (Va_9.out.below L10); have Vb_10 := Lib.hid (Vb_9.out.below L10); have Rg10_10 := Lib.hid (Rg10_9.out.kept L10); have Vc_10 := Lib.hid (Vc_9.out.below L10); clear L10 p10 N10 B9 Rg3_9 Rg4_9 Va_9 Vb_9 Rg10_9 Vc_9))
      refine (C6.out _ _ Va_10.out).mono ?_
      intro e w11 hh
      obtain ⟨u, he, hu, b1⟩ := hh
      subst he
      have B11 := Lib.hid (below_size B10.out b1)
      have Rg3_11 := Lib.hid (Rg3_10.out.kept b1)
      have Rg4_11 := Lib.hid (Rg4_10.out.kept b1)
      have Va_11 := Lib.hid (Va_10.out.below b1)
      have Vb_11 := Lib.hid (Vb_10.out.below b1)
      have Rg10_11 := Lib.hid (Rg10_10.out.kept b1)
      have Vc_11 := Lib.hid (Vc_10.out.below b1)
      have Rg12_11 := Lib.hid (Rg12_10.out.kept b1)
      obtain ⟨bu, su, rfl, ho, hb, hs⟩ := hu
      have O4 := Lib.hid ho
      obtain ⟨Ad, cd, rfl, _⟩ := hb
      obtain ⟨Dd, dd, rfl, _⟩ := hs
      clear ho
      clear b1 B10 Rg3_10 Rg4_10 Va_10 Vb_10 Rg10_10 Vc_10 Rg12_10
      go_wp2_with (first
        | ((with_reducible refine wpList_alloc_row (o := ⟨some 14, _, _, _, _, _⟩) rfl 28 rfl (frC zeroFr nilS nilS) Try.zeroOfFr ?_); intro g14 x12 n12; have N12 := Lib.hid n12; clear n12)
        | ((with_reducible refine wpList_store_row (o := ⟨none, _, _, _, _, _⟩) rfl 28 (.tmp 14) (.tmp 40) rfl g14 28 (frC zeroFr nilS nilS) (frC F (.slice Ad F.box.length cd) (.slice Dd F.sign.length dd)) ?h1_12_2 ?h2_12_2 ?h3_12_2 ?h4_12_2 ?h5_12_2 ?h6_12_2 ?h7_12_2); (case h1_12_2 => with_unfolding_all rfl); (case h2_12_2 => with_unfolding_all rfl); (case h3_12_2 => exact N12.out.row); (case h4_12_2 => rw [frC_size zeroFr_ok, frC_size O4.out]); (case h5_12_2 => exact Try.sizeFr O4.out _ _); (case h6_12_2 => exact frC_one _ _ _ rfl rfl); intro w12 p12; have L12 := (laid_put N12.out p12).1; have Rg14_12 := Lib.hid p12.row; have B12 := Lib.hid (below_size B11.out L12); have Rg3_12 := Lib.hid (Rg3_11.out.kept L12); have Rg4_12 := Lib.hid (Rg4_11.out.kept L12); have Va_12 := Lib.hid (Va_11.out.below L12); have Vb_12 := Lib.hid (Vb_11.out.below L12); have Rg10_12 := Lib.hid (Rg10_11.out.kept L12); have Vc_12 := Lib.hid (Vc_11.out.below L12); have Rg12_12 := Lib.hid (Rg12_11.out.kept L12); clear L12 p12 N12 B11 Rg3_11 Rg4_11 Va_11 Vb_11 Rg10_11 Vc_11 Rg12_11))
      have hS : Below w12.heap.size w12 w12.drew := (Below.refl _ _).drew
      refine plain_region (S := fun w' => Below w12.heap.size w12 w') (fin := fun _ => false) (by kernel_rfl) ?_
      refine walkS_take (i := 0) (oi := ⟨some 42, _, _, _, _, _⟩) (v := .int .i64 0) rfl (by kernel_rfl) (by kernel_rfl) (fun _ _ _ h => h) _ _ _ _ (by kernel_rfl) (by kernel_rfl) (Or.inl ⟨by rfl, fun w' hS' => (by clear hS hS'; go_simp)⟩) hS ?_
      try simp only [Act.put, List.setIfInBounds_toArray, List.set_cons_zero, List.set_cons_succ]
      refine walkS_take (i := 1) (oi := ⟨some 43, _, _, _, _, _⟩) (v := .bool false) rfl (by kernel_rfl) (by kernel_rfl) (fun _ _ _ h => h) _ _ _ _ (by kernel_rfl) (by kernel_rfl) (Or.inl ⟨by rfl, fun w' hS' => (by clear hS hS'; go_simp)⟩) hS ?_
      try simp only [Act.put, List.setIfInBounds_toArray, List.set_cons_zero, List.set_cons_succ]
      refine walkS_take (i := 2) (oi := ⟨some 44, _, _, _, _, _⟩) (v := .bool false) rfl (by kernel_rfl) (by kernel_rfl) (fun _ _ _ h => h) _ _ _ _ (by kernel_rfl) (by kernel_rfl) (Or.inl ⟨by rfl, fun w' hS' => (by clear hS hS'; go_simp)⟩) hS ?_
      try simp only [Act.put, List.setIfInBounds_toArray, List.set_cons_zero, List.set_cons_succ]
      refine walkS_take (i := 3) (oi := ⟨some 45, _, _, _, _, _⟩) (v := .agg (keyC K.flatten)) rfl (by kernel_rfl) (by kernel_rfl) (fun _ _ _ h => h) _ _ _ _ (by kernel_rfl) (by kernel_rfl) (Or.inl ⟨by rfl, fun w' hS' => (by exact run_load_row 39 (.tmp 10) (by with_unfolding_all rfl) g10 (by with_unfolding_all rfl) 39 (keyC K.flatten) (0, 0) _ (Rg10_12.out.kept hS') Try.underlying39 rfl (Try.sizeBu O1.out))⟩) hS ?_
      try simp only [Act.put, List.setIfInBounds_toArray, List.set_cons_zero, List.set_cons_succ]
      refine walkS_take (i := 4) (oi := ⟨some 46, _, _, _, _, _⟩) (v := .agg (keyC K.flatten)) rfl (by kernel_rfl) (by kernel_rfl) (fun _ _ _ h => h) _ _ _ _ (by kernel_rfl) (by kernel_rfl) (Or.inl ⟨by rfl, fun w' hS' => (by exact run_load_row 39 (.tmp 3) (by with_unfolding_all rfl) g3 (by with_unfolding_all rfl) 39 (keyC K.flatten) (0, 0) _ (Rg3_12.out.kept hS') Try.underlying39 rfl (Try.sizeBu O1.out))⟩) hS ?_
      try simp only [Act.put, List.setIfInBounds_toArray, List.set_cons_zero, List.set_cons_succ]
      refine walkS_take (i := 5) (oi := ⟨some 47, _, _, _, _, _⟩) (v := .bool false) rfl (by kernel_rfl) (by kernel_rfl) (fun _ _ _ h => h) _ _ _ _ (by kernel_rfl) (by kernel_rfl) (Or.inl ⟨by rfl, fun w' hS' => (by with_unfolding_all exact eqBu_run .neq (.inr rfl) (.tmp 45) (.tmp 46) _ rfl (keyC K.flatten) (keyC K.flatten) true (QQ.out _) rfl rfl)⟩) hS ?_
      try simp only [Act.put, List.setIfInBounds_toArray, List.set_cons_zero, List.set_cons_succ]
      refine walkS_take (i := 6) (oi := ⟨some 48, _, _, _, _, _⟩) (v := .bool false) rfl (by kernel_rfl) (by kernel_rfl) (fun _ _ _ h => h) _ _ _ _ (by kernel_rfl) (by kernel_rfl) (Or.inl ⟨by rfl, fun w' hS' => (by clear hS hS'; go_simp)⟩) hS ?_
      try simp only [Act.put, List.setIfInBounds_toArray, List.set_cons_zero, List.set_cons_succ]
      refine walkS_take (i := 7) (oi := ⟨some 49, _, _, _, _, _⟩) (v := .bool false) rfl (by kernel_rfl) (by kernel_rfl) (fun _ _ _ h => h) _ _ _ _ (by kernel_rfl) (by kernel_rfl) (Or.inl ⟨by rfl, fun w' hS' => (by clear hS hS'; go_simp)⟩) hS ?_
      try simp only [Act.put, List.setIfInBounds_toArray, List.set_cons_zero, List.set_cons_succ]
      refine walkS_take (i := 8) (oi := ⟨some 50, _, _, _, _, _⟩) (v := .int .i64 50) rfl (by kernel_rfl) (by kernel_rfl) (fun _ _ _ h => h) _ _ _ _ (by kernel_rfl) (by kernel_rfl) (Or.inl ⟨by rfl, fun w' hS' => (by clear hS hS'; go_simp)⟩) hS ?_
      try simp only [Act.put, List.setIfInBounds_toArray, List.set_cons_zero, List.set_cons_succ]
      refine walkS_take (i := 9) (oi := ⟨some 51, _, _, _, _, _⟩) (v := .bool false) rfl (by kernel_rfl) (by kernel_rfl) (fun _ _ _ h => h) _ _ _ _ (by kernel_rfl) (by kernel_rfl) (Or.inl ⟨by rfl, fun w' hS' => (by clear hS hS'; go_simp)⟩) hS ?_
      try simp only [Act.put, List.setIfInBounds_toArray, List.set_cons_zero, List.set_cons_succ]
      refine walkS_take (i := 10) (oi := ⟨some 52, _, _, _, _, _⟩) (v := .bool false) rfl (by kernel_rfl) (by kernel_rfl) (fun _ _ _ h => h) _ _ _ _ (by kernel_rfl) (by kernel_rfl) (Or.inl ⟨by rfl, fun w' hS' => (by clear hS hS'; go_simp)⟩) hS ?_
      try simp only [Act.put, List.setIfInBounds_toArray, List.set_cons_zero, List.set_cons_succ]
      refine walkS_take (i := 11) (oi := ⟨some 53, _, _, _, _, _⟩) (v := .bool false) rfl (by kernel_rfl) (by kernel_rfl) (fun _ _ _ h => h) _ _ _ _ (by kernel_rfl) (by kernel_rfl) (Or.inl ⟨by rfl, fun w' hS' => (by clear hS hS'; go_simp)⟩) hS ?_
      try simp only [Act.put, List.setIfInBounds_toArray, List.set_cons_zero, List.set_cons_succ]
      refine walkS_take (i := 12) (oi := ⟨some 54, _, _, _, _, _⟩) (v := .int .i64 D) rfl (by kernel_rfl) (by kernel_rfl) (fun _ _ _ h => h) _ _ _ _ (by kernel_rfl) (by kernel_rfl) (Or.inl ⟨by rfl, fun w' hS' => (by clear hS hS'; go_simp)⟩) hS ?_
      try simp only [Act.put, List.setIfInBounds_toArray, List.set_cons_zero, List.set_cons_succ]
      refine walkS_take (i := 13) (oi := ⟨some 55, _, _, _, _, _⟩) (v := .bool false) rfl (by kernel_rfl) (by kernel_rfl) (fun _ _ _ h => h) _ _ _ _ (by kernel_rfl) (by kernel_rfl) (Or.inl ⟨by rfl, fun w' hS' => (by clear hS hS'; go_simp)⟩) hS ?_
      try simp only [Act.put, List.setIfInBounds_toArray, List.set_cons_zero, List.set_cons_succ]
      refine walkS_take (i := 14) (oi := ⟨some 56, _, _, _, _, _⟩) (v := .bool false) rfl (by kernel_rfl) (by kernel_rfl) (fun _ _ _ h => h) _ _ _ _ (by kernel_rfl) (by kernel_rfl) (Or.inl ⟨by rfl, fun w' hS' => (by clear hS hS'; go_simp)⟩) hS ?_
      try simp only [Act.put, List.setIfInBounds_toArray, List.set_cons_zero, List.set_cons_succ]
      refine walkS_take (i := 15) (oi := ⟨some 57, _, _, _, _, _⟩) (v := .bool false) rfl (by kernel_rfl) (by kernel_rfl) (fun _ _ _ h => h) _ _ _ _ (by kernel_rfl) (by kernel_rfl) (Or.inl ⟨by rfl, fun w' hS' => (by clear hS hS'; go_simp)⟩) hS ?_
      try simp only [Act.put, List.setIfInBounds_toArray, List.set_cons_zero, List.set_cons_succ]
      refine walkS_take (i := 16) (oi := ⟨some 58, _, _, _, _, _⟩) (v := .slice aA L.length cA) rfl (by kernel_rfl) (by kernel_rfl) (fun _ _ _ h => h) _ _ _ _ (by kernel_rfl) (by kernel_rfl) (Or.inl ⟨by rfl, fun w' hS' => (by clear hS hS'; go_simp)⟩) hS ?_
      try simp only [Act.put, List.setIfInBounds_toArray, List.set_cons_zero, List.set_cons_succ]
      refine walkS_take (i := 17) (oi := ⟨some 59, _, _, _, _, _⟩) (v := .slice aB M.length cB) rfl (by kernel_rfl) (by kernel_rfl) (fun _ _ _ h => h) _ _ _ _ (by kernel_rfl) (by kernel_rfl) (Or.inl ⟨by rfl, fun w' hS' => (by clear hS hS'; go_simp)⟩) hS ?_
      try simp only [Act.put, List.setIfInBounds_toArray, List.set_cons_zero, List.set_cons_succ]
      refine walkS_take (i := 19) (oi := ⟨some 61, _, _, _, _, _⟩) (v := .agg (keyC K.flatten)) rfl (by kernel_rfl) (by kernel_rfl) (fun _ _ _ h => h) _ _ _ _ (by kernel_rfl) (by kernel_rfl) (Or.inl ⟨by rfl, fun w' hS' => (by exact run_load_row 39 (.tmp 3) (by with_unfolding_all rfl) g3 (by with_unfolding_all rfl) 39 (keyC K.flatten) (0, 0) _ (Rg3_12.out.kept hS') Try.underlying39 rfl (Try.sizeBu O1.out))⟩) hS ?_
      try simp only [Act.put, List.setIfInBounds_toArray, List.set_cons_zero, List.set_cons_succ]
      refine walkS_take (i := 20) (oi := ⟨some 62, _, _, _, _, _⟩) (v := .agg (keyC J.flatten)) rfl (by kernel_rfl) (by kernel_rfl) (fun _ _ _ h => h) _ _ _ _ (by kernel_rfl) (by kernel_rfl) (Or.inl ⟨by rfl, fun w' hS' => (by exact run_load_row 39 (.tmp 4) (by with_unfolding_all rfl) g4 (by with_unfolding_all rfl) 39 (keyC J.flatten) (0, 0) _ (Rg4_12.out.kept hS') Try.underlying39 rfl (Try.sizeBu O2.out))⟩) hS ?_
      try simp only [Act.put, List.setIfInBounds_toArray, List.set_cons_zero, List.set_cons_succ]
      refine walkS_take (i := 21) (oi := ⟨some 63, _, _, _, _, _⟩) (v := .bool r) rfl (by kernel_rfl) (by kernel_rfl) (fun _ _ _ h => h) _ _ _ _ (by kernel_rfl) (by kernel_rfl) (Or.inl ⟨by rfl, fun w' hS' => (by with_unfolding_all exact eqBu_run .eql (.inl rfl) (.tmp 61) (.tmp 62) _ rfl (keyC K.flatten) (keyC J.flatten) r (QR.out _) rfl rfl)⟩) hS ?_
      try simp only [Act.put, List.setIfInBounds_toArray, List.set_cons_zero, List.set_cons_succ]
      refine walkS_onlyH (i := 18) (o := ⟨some 60, _, _, _, _, _⟩) (by kernel_rfl) rfl (by rfl) fun KK hKK => ?_
      go_simp
      refine (C7.out _ _ _ (Va_12.out.below hS) (Vb_12.out.below hS)).mono ?_
      intro e wq hh
      obtain ⟨he, bq⟩ := hh
      subst he
      have hS2 := below_size hS bq
      refine hKK _ _ (.inr hS2) ?_
      clear hKK KK hS bq
      try simp only [Act.put, List.setIfInBounds_toArray, List.set_cons_zero, List.set_cons_succ]
      refine walkS_take (i := 22) (oi := ⟨some 64, _, _, _, _, _⟩) (v := .bool false) rfl (by kernel_rfl) (by kernel_rfl) (fun _ _ _ h => h) _ _ _ _ (by kernel_rfl) (by kernel_rfl) (Or.inl ⟨by rfl, fun w' hS' => (by clear hS2 hS'; cases r <;> go_simp)⟩) hS2 ?_
      try simp only [Act.put, List.setIfInBounds_toArray, List.set_cons_zero, List.set_cons_succ]
      refine walkS_take (i := 23) (oi := ⟨some 65, _, _, _, _, _⟩) (v := .bool false) rfl (by kernel_rfl) (by kernel_rfl) (fun _ _ _ h => h) _ _ _ _ (by kernel_rfl) (by kernel_rfl) (Or.inl ⟨by rfl, fun w' hS' => (by clear hS2 hS'; go_simp)⟩) hS2 ?_
      try simp only [Act.put, List.setIfInBounds_toArray, List.set_cons_zero, List.set_cons_succ]
      refine walkS_done (by kernel_rfl) ?_ _
      have B13 := Lib.hid (below_size B12.out hS2)
      have Rg3_13 := Lib.hid (Rg3_12.out.kept hS2)
      have Rg4_13 := Lib.hid (Rg4_12.out.kept hS2)
      have Va_13 := Lib.hid (Va_12.out.below hS2)
      have Vb_13 := Lib.hid (Vb_12.out.below hS2)
      have Rg10_13 := Lib.hid (Rg10_12.out.kept hS2)
      have Vc_13 := Lib.hid (Vc_12.out.below hS2)
      have Rg12_13 := Lib.hid (Rg12_12.out.kept hS2)
      have Rg14_13 := Lib.hid (Rg14_12.out.kept hS2)
      clear hS2 B12 Rg3_12 Rg4_12 Va_12 Vb_12 Rg10_12 Vc_12 Rg12_12 Rg14_12

      go_wp2
      go_ret
      exact ⟨rfl, B13.out⟩
    · have d3 : decide (L.length ≤ n) = false := by simp; omega
      have d4 : ¬ L.length ≤ n := a1
      have HN : Hid (n < L.length) := by show _ < _; omega
      have hn131 : n < 131 := by have := HN.out; have := LN.out; omega
      clear a0 a1
      go_enter Try.func8, Try.ntmps8
      go_wp2_with (first
        | ((with_reducible refine wpList_box_row (o := ⟨some 3, _, _, _, _, _⟩) rfl 39 (.tmp 0) rfl (keyC K.flatten) (by with_unfolding_all rfl) ?_); intro g3 w1 n1; have Rg3_1 := Lib.hid n1.row; have B1 := Lib.hid (n1.below); clear n1)
        | ((with_reducible refine wpList_box_row (o := ⟨some 4, _, _, _, _, _⟩) rfl 39 (.tmp 1) rfl (keyC J.flatten) (by with_unfolding_all rfl) ?_); intro g4 w2 n2; have Rg4_2 := Lib.hid n2.row; have B2 := Lib.hid (below_size B1.out n2.below); have Rg3_2 := Lib.hid (Rg3_1.out.kept n2.below); clear n2 B1 Rg3_1))
      refine (CA.out _).mono ?_
      intro e w3 hh
      obtain ⟨he, b1⟩ := hh
      subst he
      have B3 := Lib.hid (below_size B2.out b1)
      have Rg3_3 := Lib.hid (Rg3_2.out.kept b1)
      have Rg4_3 := Lib.hid (Rg4_2.out.kept b1)
      clear b1 B2 Rg3_2 Rg4_2
      go_wp2_with (first
        | (with_reducible refine wpList_load_row (o := ⟨some 19, _, _, _, _, _⟩) rfl 39 (.tmp 3) rfl g3 (by with_unfolding_all rfl) 39 (keyC K.flatten) (0, 0) _ (by with_unfolding_all exact Rg3_3.out) Try.underlying39 rfl (Try.sizeBu O1.out) ?_))
      refine (C1.out _).mono ?_
      intro e w4 hh
      obtain ⟨u, he, hu, b1⟩ := hh
      subst he
      have B4 := Lib.hid (below_size B3.out b1)
      have Rg3_4 := Lib.hid (Rg3_3.out.kept b1)
      have Rg4_4 := Lib.hid (Rg4_3.out.kept b1)
      have Va_4 := Lib.hid hu
      obtain ⟨aA, cA, rfl, _, qA, _⟩ := hu
      unfold maxLen at qA
      clear b1 B3 Rg3_3 Rg4_3
      go_wp2_with (first
        | (with_reducible refine wpList_load_row (o := ⟨some 21, _, _, _, _, _⟩) rfl 39 (.tmp 4) rfl g4 (by with_unfolding_all rfl) 39 (keyC J.flatten) (0, 0) _ (by with_unfolding_all exact Rg4_4.out) Try.underlying39 rfl (Try.sizeBu O2.out) ?_))
      refine (C2.out _).mono ?_
      intro e w5 hh
      obtain ⟨u, he, hu, b1⟩ := hh
      subst he
      have B5 := Lib.hid (below_size B4.out b1)
      have Rg3_5 := Lib.hid (Rg3_4.out.kept b1)
      have Rg4_5 := Lib.hid (Rg4_4.out.kept b1)
      have Va_5 := Lib.hid (Va_4.out.below b1)
      have Vb_5 := Lib.hid hu
      obtain ⟨aB, cB, rfl, _⟩ := hu
      clear b1 B4 Rg3_4 Rg4_4 Va_4
      go_wp2_with fail
      refine (C3.out _ _ Va_5.out).mono ?_
      intro e w6 hh
      obtain ⟨he, b1⟩ := hh
      subst he
      have B6 := Lib.hid (below_size B5.out b1)
      have Rg3_6 := Lib.hid (Rg3_5.out.kept b1)
      have Rg4_6 := Lib.hid (Rg4_5.out.kept b1)
      have Va_6 := Lib.hid (Va_5.out.below b1)
      have Vb_6 := Lib.hid (Vb_5.out.below b1)
      clear b1 B5 Rg3_5 Rg4_5 Va_5 Vb_5
      go_wp2_with (first
        | ((with_reducible refine wpList_alloc_row (o := ⟨some 10, _, _, _, _, _⟩) rfl 39 rfl (keyC zeroBu.flatten) Try.zeroOfBu ?_); intro g10 x7 n7; have N7 := Lib.hid n7; clear n7)
        | ((with_reducible refine wpList_store_row (o := ⟨none, _, _, _, _, _⟩) rfl 39 (.tmp 10) (.tmp 26) rfl g10 39 (keyC zeroBu.flatten) (keyC K.flatten) ?h1_7_3 ?h2_7_3 ?h3_7_3 ?h4_7_3 ?h5_7_3 ?h6_7_3 ?h7_7_3); (case h1_7_3 => with_unfolding_all rfl); (case h2_7_3 => with_unfolding_all rfl); (case h3_7_3 => exact N7.out.row); (case h4_7_3 => rw [zeroBu_ok.size, BuOk.size O1.out]); (case h5_7_3 => exact Try.sizeBu O1.out); (case h6_7_3 => exact keyC_one _); intro w7 p7; have L7 := (laid_put N7.out p7).1; have Rg10_7 := Lib.hid p7.row; have B7 := Lib.hid (below_size B6.out L7); have Rg3_7 := Lib.hid (Rg3_6.out.kept L7); have Rg4_7 := Lib.hid (Rg4_6.out.kept L7); have Va_7 := Lib.hid (Va_6.out.below L7); have Vb_7 := Lib.hid (Vb_6.out.below L7); clear L7 p7 N7 B6 Rg3_6 Rg4_6 Va_6 Vb_6)
        | ((with_reducible refine wpList_appB _ (o := ⟨some 31, _, _, _, _, _⟩) rfl (.tmp 29) (.tmp 30) 25 rfl w7 5 (by kernel_rfl) Try.underlying25 (.slice (some ⟨w7.heap.size, 0, none⟩) 0 0) (.slice aA L.length cA) [] L (by with_unfolding_all rfl) (by with_unfolding_all rfl) (by with_unfolding_all exact lit_ownF w7 [] #[] rfl (by simp [maxLen])) (Va_7.out.below (alloc_below _ _)) (by simp [LN.out]) (alloc_below _ _) ?_); intro va xa oa ba; have OA := Lib.hid oa; have BA := Lib.hid ba; clear oa ba)
        | ((with_reducible refine wpList_appB _ (o := ⟨some 33, _, _, _, _, _⟩) rfl (.tmp 31) (.tmp 32) 25 rfl w7 5 (by kernel_rfl) Try.underlying25 va (.slice (some ⟨xa.heap.size, 0, none⟩) 1 1) ([] ++ L) [0] (by with_unfolding_all rfl) (by with_unfolding_all rfl) (OA.out.alloc _) (by with_unfolding_all exact Bs.lit xa 5 [0] #[.int .u8 0] rfl (by simp [maxLen])) (by simp [LN.out]) (below_size BA.out (alloc_below _ _)) ?_); intro vz w8 oz bz; rw [List.nil_append] at oz; have Vc_8 := Lib.hid oz.bs; have B8 := Lib.hid (below_size B7.out bz); have Rg3_8 := Lib.hid (Rg3_7.out.kept bz); have Rg4_8 := Lib.hid (Rg4_7.out.kept bz); have Va_8 := Lib.hid (Va_7.out.below bz); have Vb_8 := Lib.hid (Vb_7.out.below bz); have Rg10_8 := Lib.hid (Rg10_7.out.kept bz); clear bz oz OA BA B7 Rg3_7 Rg4_7 Va_7 Vb_7 Rg10_7))
      refine (C4.out _ _ Vc_8.out).mono ?_
      intro e w9 hh
      obtain ⟨⟨Q, hq, he⟩, b1⟩ := hh
      subst he
      have B9 := Lib.hid (below_size B8.out b1)
      have Rg3_9 := Lib.hid (Rg3_8.out.kept b1)
      have Rg4_9 := Lib.hid (Rg4_8.out.kept b1)
      have Va_9 := Lib.hid (Va_8.out.below b1)
      have Vb_9 := Lib.hid (Vb_8.out.below b1)
      have Rg10_9 := Lib.hid (Rg10_8.out.kept b1)
      have Vc_9 := Lib.hid (Vc_8.out.below b1)
      have O3 := Lib.hid hq
      clear hq
      clear b1 B8 Rg3_8 Rg4_8 Va_8 Vb_8 Rg10_8 Vc_8
      go_wp2_with (first
        | ((with_reducible refine wpList_alloc_row (o := ⟨some 12, _, _, _, _, _⟩) rfl 39 rfl (keyC zeroBu.flatten) Try.zeroOfBu ?_); intro g12 x10 n10; have N10 := Lib.hid n10; clear n10)
        | ((with_reducible refine wpList_store_row (o := ⟨none, _, _, _, _, _⟩) rfl 39 (.tmp 12) (.tmp 35) rfl g12 39 (keyC zeroBu.flatten) (keyC Q.flatten) ?h1_10_3 ?h2_10_3 ?h3_10_3 ?h4_10_3 ?h5_10_3 ?h6_10_3 ?h7_10_3); (case h1_10_3 => with_unfolding_all rfl); (case h2_10_3 => with_unfolding_all rfl); (case h3_10_3 => exact N10.out.row); (case h4_10_3 => rw [zeroBu_ok.size, BuOk.size O3.out]); (case h5_10_3 => exact Try.sizeBu O3.out); (case h6_10_3 => exact keyC_one _); intro w10 p10; have L10 := (laid_put N10.out p10).1; have Rg12_10 := Lib.hid p10.row; have B10 := Lib.hid (below_size B9.out L10); have Rg3_10 := Lib.hid (Rg3_9.out.kept L10); have Rg4_10 := Lib.hid (Rg4_9.out.kept L10); have Va_10 := Lib.hid (Va_9.out.below L10); have Vb_10 := Lib.hid (Vb_9.out.below L10); have Rg10_10 := Lib.hid (Rg10_9.out.kept L10); have Vc_10 := Lib.hid (Vc_9.out.below L10); clear L10 p10 N10 B9 Rg3_9 Rg4_9 Va_9 Vb_9 Rg10_9 Vc_9))
      refine (C6.out _ _ Va_10.out).mono ?_
      intro e w11 hh
      obtain ⟨u, he, hu, b1⟩ := hh
      subst he
      have B11 := Lib.hid (below_size B10.out b1)
      have Rg3_11 := Lib.hid (Rg3_10.out.kept b1)
      have Rg4_11 := Lib.hid (Rg4_10.out.kept b1)
      have Va_11 := Lib.hid (Va_10.out.below b1)
      have Vb_11 := Lib.hid (Vb_10.out.below b1)
      have Rg10_11 := Lib.hid (Rg10_10.out.kept b1)
      have Vc_11 := Lib.hid (Vc_10.out.below b1)
      have Rg12_11 := Lib.hid (Rg12_10.out.kept b1)
      obtain ⟨bu, su, rfl, ho, hb, hs⟩ := hu
      have O4 := Lib.hid ho
      obtain ⟨Ad, cd, rfl, _⟩ := hb
      obtain ⟨Dd, dd, rfl, _⟩ := hs
      clear ho
      clear b1 B10 Rg3_10 Rg4_10 Va_10 Vb_10 Rg10_10 Vc_10 Rg12_10
      go_wp2_with (first
        | ((with_reducible refine wpList_alloc_row (o := ⟨some 14, _, _, _, _, _⟩) rfl 28 rfl (frC zeroFr nilS nilS) Try.zeroOfFr ?_); intro g14 x12 n12; have N12 := Lib.hid n12; clear n12)
        | ((with_reducible refine wpList_store_row (o := ⟨none, _, _, _, _, _⟩) rfl 28 (.tmp 14) (.tmp 40) rfl g14 28 (frC zeroFr nilS nilS) (frC F (.slice Ad F.box.length cd) (.slice Dd F.sign.length dd)) ?h1_12_3 ?h2_12_3 ?h3_12_3 ?h4_12_3 ?h5_12_3 ?h6_12_3 ?h7_12_3); (case h1_12_3 => with_unfolding_all rfl); (case h2_12_3 => with_unfolding_all rfl); (case h3_12_3 => exact N12.out.row); (case h4_12_3 => rw [frC_size zeroFr_ok, frC_size O4.out]); (case h5_12_3 => exact Try.sizeFr O4.out _ _); (case h6_12_3 => exact frC_one _ _ _ rfl rfl); intro w12 p12; have L12 := (laid_put N12.out p12).1; have Rg14_12 := Lib.hid p12.row; have B12 := Lib.hid (below_size B11.out L12); have Rg3_12 := Lib.hid (Rg3_11.out.kept L12); have Rg4_12 := Lib.hid (Rg4_11.out.kept L12); have Va_12 := Lib.hid (Va_11.out.below L12); have Vb_12 := Lib.hid (Vb_11.out.below L12); have Rg10_12 := Lib.hid (Rg10_11.out.kept L12); have Vc_12 := Lib.hid (Vc_11.out.below L12); have Rg12_12 := Lib.hid (Rg12_11.out.kept L12); clear L12 p12 N12 B11 Rg3_11 Rg4_11 Va_11 Vb_11 Rg10_11 Vc_11 Rg12_11))
      have hS : Below w12.heap.size w12 w12.drew := (Below.refl _ _).drew
      refine plain_region (S := fun w' => Below w12.heap.size w12 w') (fin := fun _ => false) (by kernel_rfl) ?_
      refine walkS_take (i := 0) (oi := ⟨some 42, _, _, _, _, _⟩) (v := .int .i64 0) rfl (by kernel_rfl) (by kernel_rfl) (fun _ _ _ h => h) _ _ _ _ (by kernel_rfl) (by kernel_rfl) (Or.inl ⟨by rfl, fun w' hS' => (by clear hS hS'; go_simp)⟩) hS ?_
      try simp only [Act.put, List.setIfInBounds_toArray, List.set_cons_zero, List.set_cons_succ]
      refine walkS_take (i := 1) (oi := ⟨some 43, _, _, _, _, _⟩) (v := .bool false) rfl (by kernel_rfl) (by kernel_rfl) (fun _ _ _ h => h) _ _ _ _ (by kernel_rfl) (by kernel_rfl) (Or.inl ⟨by rfl, fun w' hS' => (by clear hS hS'; go_simp)⟩) hS ?_
      try simp only [Act.put, List.setIfInBounds_toArray, List.set_cons_zero, List.set_cons_succ]
      refine walkS_take (i := 2) (oi := ⟨some 44, _, _, _, _, _⟩) (v := .bool false) rfl (by kernel_rfl) (by kernel_rfl) (fun _ _ _ h => h) _ _ _ _ (by kernel_rfl) (by kernel_rfl) (Or.inl ⟨by rfl, fun w' hS' => (by clear hS hS'; go_simp)⟩) hS ?_
      try simp only [Act.put, List.setIfInBounds_toArray, List.set_cons_zero, List.set_cons_succ]
      refine walkS_take (i := 3) (oi := ⟨some 45, _, _, _, _, _⟩) (v := .agg (keyC K.flatten)) rfl (by kernel_rfl) (by kernel_rfl) (fun _ _ _ h => h) _ _ _ _ (by kernel_rfl) (by kernel_rfl) (Or.inl ⟨by rfl, fun w' hS' => (by exact run_load_row 39 (.tmp 10) (by with_unfolding_all rfl) g10 (by with_unfolding_all rfl) 39 (keyC K.flatten) (0, 0) _ (Rg10_12.out.kept hS') Try.underlying39 rfl (Try.sizeBu O1.out))⟩) hS ?_
      try simp only [Act.put, List.setIfInBounds_toArray, List.set_cons_zero, List.set_cons_succ]
      refine walkS_take (i := 4) (oi := ⟨some 46, _, _, _, _, _⟩) (v := .agg (keyC K.flatten)) rfl (by kernel_rfl) (by kernel_rfl) (fun _ _ _ h => h) _ _ _ _ (by kernel_rfl) (by kernel_rfl) (Or.inl ⟨by rfl, fun w' hS' => (by exact run_load_row 39 (.tmp 3) (by with_unfolding_all rfl) g3 (by with_unfolding_all rfl) 39 (keyC K.flatten) (0, 0) _ (Rg3_12.out.kept hS') Try.underlying39 rfl (Try.sizeBu O1.out))⟩) hS ?_
      try simp only [Act.put, List.setIfInBounds_toArray, List.set_cons_zero, List.set_cons_succ]
      refine walkS_take (i := 5) (oi := ⟨some 47, _, _, _, _, _⟩) (v := .bool false) rfl (by kernel_rfl) (by kernel_rfl) (fun _ _ _ h => h) _ _ _ _ (by kernel_rfl) (by kernel_rfl) (Or.inl ⟨by rfl, fun w' hS' => (by with_unfolding_all exact eqBu_run .neq (.inr rfl) (.tmp 45) (.tmp 46) _ rfl (keyC K.flatten) (keyC K.flatten) true (QQ.out _) rfl rfl)⟩) hS ?_
      try simp only [Act.put, List.setIfInBounds_toArray, List.set_cons_zero, List.set_cons_succ]
      refine walkS_take (i := 6) (oi := ⟨some 48, _, _, _, _, _⟩) (v := .bool false) rfl (by kernel_rfl) (by kernel_rfl) (fun _ _ _ h => h) _ _ _ _ (by kernel_rfl) (by kernel_rfl) (Or.inl ⟨by rfl, fun w' hS' => (by clear hS hS'; go_simp)⟩) hS ?_
      try simp only [Act.put, List.setIfInBounds_toArray, List.set_cons_zero, List.set_cons_succ]
      refine walkS_take (i := 7) (oi := ⟨some 49, _, _, _, _, _⟩) (v := .bool false) rfl (by kernel_rfl) (by kernel_rfl) (fun _ _ _ h => h) _ _ _ _ (by kernel_rfl) (by kernel_rfl) (Or.inl ⟨by rfl, fun w' hS' => (by clear hS hS'; go_simp)⟩) hS ?_
      try simp only [Act.put, List.setIfInBounds_toArray, List.set_cons_zero, List.set_cons_succ]
      refine walkS_take (i := 8) (oi := ⟨some 50, _, _, _, _, _⟩) (v := .int .i64 50) rfl (by kernel_rfl) (by kernel_rfl) (fun _ _ _ h => h) _ _ _ _ (by kernel_rfl) (by kernel_rfl) (Or.inl ⟨by rfl, fun w' hS' => (by clear hS hS'; go_simp)⟩) hS ?_
      try simp only [Act.put, List.setIfInBounds_toArray, List.set_cons_zero, List.set_cons_succ]
      refine walkS_take (i := 9) (oi := ⟨some 51, _, _, _, _, _⟩) (v := .bool false) rfl (by kernel_rfl) (by kernel_rfl) (fun _ _ _ h => h) _ _ _ _ (by kernel_rfl) (by kernel_rfl) (Or.inl ⟨by rfl, fun w' hS' => (by clear hS hS'; go_simp)⟩) hS ?_
      try simp only [Act.put, List.setIfInBounds_toArray, List.set_cons_zero, List.set_cons_succ]
      refine walkS_take (i := 10) (oi := ⟨some 52, _, _, _, _, _⟩) (v := .bool false) rfl (by kernel_rfl) (by kernel_rfl) (fun _ _ _ h => h) _ _ _ _ (by kernel_rfl) (by kernel_rfl) (Or.inl ⟨by rfl, fun w' hS' => (by clear hS hS'; go_simp)⟩) hS ?_
      try simp only [Act.put, List.setIfInBounds_toArray, List.set_cons_zero, List.set_cons_succ]
      refine walkS_take (i := 11) (oi := ⟨some 53, _, _, _, _, _⟩) (v := .bool false) rfl (by kernel_rfl) (by kernel_rfl) (fun _ _ _ h => h) _ _ _ _ (by kernel_rfl) (by kernel_rfl) (Or.inl ⟨by rfl, fun w' hS' => (by clear hS hS'; go_simp)⟩) hS ?_
      try simp only [Act.put, List.setIfInBounds_toArray, List.set_cons_zero, List.set_cons_succ]
      refine walkS_take (i := 12) (oi := ⟨some 54, _, _, _, _, _⟩) (v := .int .i64 D) rfl (by kernel_rfl) (by kernel_rfl) (fun _ _ _ h => h) _ _ _ _ (by kernel_rfl) (by kernel_rfl) (Or.inl ⟨by rfl, fun w' hS' => (by clear hS hS'; go_simp)⟩) hS ?_
      try simp only [Act.put, List.setIfInBounds_toArray, List.set_cons_zero, List.set_cons_succ]
      refine walkS_take (i := 13) (oi := ⟨some 55, _, _, _, _, _⟩) (v := .bool false) rfl (by kernel_rfl) (by kernel_rfl) (fun _ _ _ h => h) _ _ _ _ (by kernel_rfl) (by kernel_rfl) (Or.inl ⟨by rfl, fun w' hS' => (by clear hS hS'; go_simp)⟩) hS ?_
      try simp only [Act.put, List.setIfInBounds_toArray, List.set_cons_zero, List.set_cons_succ]
      refine walkS_take (i := 14) (oi := ⟨some 56, _, _, _, _, _⟩) (v := .bool false) rfl (by kernel_rfl) (by kernel_rfl) (fun _ _ _ h => h) _ _ _ _ (by kernel_rfl) (by kernel_rfl) (Or.inl ⟨by rfl, fun w' hS' => (by clear hS hS'; go_simp)⟩) hS ?_
      try simp only [Act.put, List.setIfInBounds_toArray, List.set_cons_zero, List.set_cons_succ]
      refine walkS_take (i := 15) (oi := ⟨some 57, _, _, _, _, _⟩) (v := .bool false) rfl (by kernel_rfl) (by kernel_rfl) (fun _ _ _ h => h) _ _ _ _ (by kernel_rfl) (by kernel_rfl) (Or.inl ⟨by rfl, fun w' hS' => (by clear hS hS'; go_simp)⟩) hS ?_
      try simp only [Act.put, List.setIfInBounds_toArray, List.set_cons_zero, List.set_cons_succ]
      refine walkS_take (i := 16) (oi := ⟨some 58, _, _, _, _, _⟩) (v := .slice aA L.length cA) rfl (by kernel_rfl) (by kernel_rfl) (fun _ _ _ h => h) _ _ _ _ (by kernel_rfl) (by kernel_rfl) (Or.inl ⟨by rfl, fun w' hS' => (by clear hS hS'; go_simp)⟩) hS ?_
      try simp only [Act.put, List.setIfInBounds_toArray, List.set_cons_zero, List.set_cons_succ]
      refine walkS_take (i := 17) (oi := ⟨some 59, _, _, _, _, _⟩) (v := .slice aB M.length cB) rfl (by kernel_rfl) (by kernel_rfl) (fun _ _ _ h => h) _ _ _ _ (by kernel_rfl) (by kernel_rfl) (Or.inl ⟨by rfl, fun w' hS' => (by clear hS hS'; go_simp)⟩) hS ?_
      try simp only [Act.put, List.setIfInBounds_toArray, List.set_cons_zero, List.set_cons_succ]
      refine walkS_take (i := 19) (oi := ⟨some 61, _, _, _, _, _⟩) (v := .agg (keyC K.flatten)) rfl (by kernel_rfl) (by kernel_rfl) (fun _ _ _ h => h) _ _ _ _ (by kernel_rfl) (by kernel_rfl) (Or.inl ⟨by rfl, fun w' hS' => (by exact run_load_row 39 (.tmp 3) (by with_unfolding_all rfl) g3 (by with_unfolding_all rfl) 39 (keyC K.flatten) (0, 0) _ (Rg3_12.out.kept hS') Try.underlying39 rfl (Try.sizeBu O1.out))⟩) hS ?_
      try simp only [Act.put, List.setIfInBounds_toArray, List.set_cons_zero, List.set_cons_succ]
      refine walkS_take (i := 20) (oi := ⟨some 62, _, _, _, _, _⟩) (v := .agg (keyC J.flatten)) rfl (by kernel_rfl) (by kernel_rfl) (fun _ _ _ h => h) _ _ _ _ (by kernel_rfl) (by kernel_rfl) (Or.inl ⟨by rfl, fun w' hS' => (by exact run_load_row 39 (.tmp 4) (by with_unfolding_all rfl) g4 (by with_unfolding_all rfl) 39 (keyC J.flatten) (0, 0) _ (Rg4_12.out.kept hS') Try.underlying39 rfl (Try.sizeBu O2.out))⟩) hS ?_
      try simp only [Act.put, List.setIfInBounds_toArray, List.set_cons_zero, List.set_cons_succ]
      refine walkS_take (i := 21) (oi := ⟨some 63, _, _, _, _, _⟩) (v := .bool r) rfl (by kernel_rfl) (by kernel_rfl) (fun _ _ _ h => h) _ _ _ _ (by kernel_rfl) (by kernel_rfl) (Or.inl ⟨by rfl, fun w' hS' => (by with_unfolding_all exact eqBu_run .eql (.inl rfl) (.tmp 61) (.tmp 62) _ rfl (keyC K.flatten) (keyC J.flatten) r (QR.out _) rfl rfl)⟩) hS ?_
      try simp only [Act.put, List.setIfInBounds_toArray, List.set_cons_zero, List.set_cons_succ]
      refine walkS_onlyH (i := 18) (o := ⟨some 60, _, _, _, _, _⟩) (by kernel_rfl) rfl (by rfl) fun KK hKK => ?_
      go_simp
      refine (C7.out _ _ _ (Va_12.out.below hS) (Vb_12.out.below hS)).mono ?_
      intro e wq hh
      obtain ⟨he, bq⟩ := hh
      subst he
      have hS2 := below_size hS bq
      refine hKK _ _ (.inr hS2) ?_
      clear hKK KK hS bq
      try simp only [Act.put, List.setIfInBounds_toArray, List.set_cons_zero, List.set_cons_succ]
      refine walkS_take (i := 22) (oi := ⟨some 64, _, _, _, _, _⟩) (v := .bool false) rfl (by kernel_rfl) (by kernel_rfl) (fun _ _ _ h => h) _ _ _ _ (by kernel_rfl) (by kernel_rfl) (Or.inl ⟨by rfl, fun w' hS' => (by clear hS2 hS'; cases r <;> go_simp)⟩) hS2 ?_
      try simp only [Act.put, List.setIfInBounds_toArray, List.set_cons_zero, List.set_cons_succ]
      refine walkS_take (i := 23) (oi := ⟨some 65, _, _, _, _, _⟩) (v := .bool false) rfl (by kernel_rfl) (by kernel_rfl) (fun _ _ _ h => h) _ _ _ _ (by kernel_rfl) (by kernel_rfl) (Or.inl ⟨by rfl, fun w' hS' => (by clear hS2 hS'; go_simp)⟩) hS2 ?_
      try simp only [Act.put, List.setIfInBounds_toArray, List.set_cons_zero, List.set_cons_succ]
      refine walkS_done (by kernel_rfl) ?_ _
      have B13 := Lib.hid (below_size B12.out hS2)
      have Rg3_13 := Lib.hid (Rg3_12.out.kept hS2)
      have Rg4_13 := Lib.hid (Rg4_12.out.kept hS2)
      have Va_13 := Lib.hid (Va_12.out.below hS2)
      have Vb_13 := Lib.hid (Vb_12.out.below hS2)
      have Rg10_13 := Lib.hid (Rg10_12.out.kept hS2)
      have Vc_13 := Lib.hid (Vc_12.out.below hS2)
      have Rg12_13 := Lib.hid (Rg12_12.out.kept hS2)
      have Rg14_13 := Lib.hid (Rg14_12.out.kept hS2)
      clear hS2 B12 Rg3_12 Rg4_12 Va_12 Vb_12 Rg10_12 Vc_12 Rg12_12 Rg14_12

      go_wp2_with fail
      refine (C5.out n HN.out _ _ (Va_13.out.fore n (Nat.le_of_lt HN.out))).mono ?_
      intro e w14 hh
      obtain ⟨⟨Q2, hq, he⟩, b1⟩ := hh
      subst he
      have B14 := Lib.hid (below_size B13.out b1)
      have Rg3_14 := Lib.hid (Rg3_13.out.kept b1)
      have Rg4_14 := Lib.hid (Rg4_13.out.kept b1)
      have Va_14 := Lib.hid (Va_13.out.below b1)
      have Vb_14 := Lib.hid (Vb_13.out.below b1)
      have Rg10_14 := Lib.hid (Rg10_13.out.kept b1)
      have Vc_14 := Lib.hid (Vc_13.out.below b1)
      have Rg12_14 := Lib.hid (Rg12_13.out.kept b1)
      have Rg14_14 := Lib.hid (Rg14_13.out.kept b1)
      have O5 := Lib.hid hq
      clear hq
      clear b1 B13 Rg3_13 Rg4_13 Va_13 Vb_13 Rg10_13 Vc_13 Rg12_13 Rg14_13
      go_wp2_with (first
        | ((with_reducible refine wpList_alloc_row (o := ⟨some 16, _, _, _, _, _⟩) rfl 39 rfl (keyC zeroBu.flatten) Try.zeroOfBu ?_); intro g16 x15 n15; have N15 := Lib.hid n15; clear n15)
        | ((with_reducible refine wpList_store_row (o := ⟨none, _, _, _, _, _⟩) rfl 39 (.tmp 16) (.tmp 80) rfl g16 39 (keyC zeroBu.flatten) (keyC Q2.flatten) ?h1_15_3 ?h2_15_3 ?h3_15_3 ?h4_15_3 ?h5_15_3 ?h6_15_3 ?h7_15_3); (case h1_15_3 => with_unfolding_all rfl); (case h2_15_3 => with_unfolding_all rfl); (case h3_15_3 => exact N15.out.row); (case h4_15_3 => rw [zeroBu_ok.size, BuOk.size O5.out]); (case h5_15_3 => exact Try.sizeBu O5.out); (case h6_15_3 => exact keyC_one _); intro w15 p15; have L15 := (laid_put N15.out p15).1; have Rg16_15 := Lib.hid p15.row; have B15 := Lib.hid (below_size B14.out L15); have Rg3_15 := Lib.hid (Rg3_14.out.kept L15); have Rg4_15 := Lib.hid (Rg4_14.out.kept L15); have Va_15 := Lib.hid (Va_14.out.below L15); have Vb_15 := Lib.hid (Vb_14.out.below L15); have Rg10_15 := Lib.hid (Rg10_14.out.kept L15); have Vc_15 := Lib.hid (Vc_14.out.below L15); have Rg12_15 := Lib.hid (Rg12_14.out.kept L15); have Rg14_15 := Lib.hid (Rg14_14.out.kept L15); clear L15 p15 N15 B14 Rg3_14 Rg4_14 Va_14 Vb_14 Rg10_14 Vc_14 Rg12_14 Rg14_14))
      go_ret
      exact ⟨rfl, B15.out⟩
end Go.Proofs.Ytmhhjdiilmgmoaa
end
section
namespace Go.Proofs.Ytmhhjdiilmgmoaa.frameBundles
open Go.ChangeShapes Go.WideShapes Go.ChangeAt Go.RowKit
open Go.ChangeMaps (open_string shut_string)
set_option linter.unusedVariables false

theorem own : ownKnob Try.prog.godebug = none := by kernel_rfl
theorem laidOut : laidOutB Try.prog = true := by kernel_rfl

set_option maxRecDepth 100000 in
theorem lifted (os : Os) (started : os.Started) (H : Type) (enc : TypeId × Value → H) :
    ReturnsInHanded {} Try.checked os 8 .any (Rows.frameBundlesSpec.pre6 enc Try.prog Try.f8 Rows.frameBundlesRow.domain false) (Rows.frameBundlesSpec.post enc Try.prog Try.f8 false true false false) := by
  refine returnsInHanded_of_change (C := Try.checked) own started (by kernel_rfl) Try.func8
    (ChangeSpec.witness6 (enc := enc) (C := Try.checked) false ⟨#[], #[.agg (keyC zeroBu.flatten), .agg (keyC zeroBu.flatten), .int .i64 0], []⟩ 8 (by kernel_rfl) (by kernel_rfl) (by kernel_rfl) (by kernel_rfl)) ?_
  intro W base args ds gs before hval0 hW hcnd _
  have hval : ∀ (j : Nat) t v, Try.f8.params[j]? = some t → args[j]? = some v → Value.okWide Try.prog W .any base t v := hval0
  have hW' := hW
  obtain ⟨p, q, hA0, hV, rfl, hfz, hnd⟩ := hW
  have hA : DataW.TrodAll enc Try.prog W 0 (fun _ => true) true Try.f8.params.toList args.toList ds p := hA0
  rw [Try.params8] at hA hval
  obtain ⟨v0, vs0, d0, ds0, p0, q0, hargs, rfl, rfl, h0, r0⟩ := trodAll_cons hA
  obtain ⟨v1, vs1, d1, ds1, p1, q1, rfl, rfl, rfl, h1, r1⟩ := trodAll_cons r0
  obtain ⟨v2, vs2, d2, ds2, p2, q2, rfl, rfl, rfl, h2, r2⟩ := trodAll_cons r1
  obtain ⟨rfl, rfl, rfl⟩ := trodAll_nil r2
  obtain rfl : args = #[v0, v1, v2] := by cases args; simp_all
  obtain ⟨rfl, rfl⟩ := trodVars_none hV
  have k0 := h0
  have lt0 : ∀ x ∈ p0, x.block < W.heap.size := by obtain ⟨m, hm⟩ := k0; exact DataW.trod_lt m _ _ _ hm
  obtain ⟨l0, rfl, w0⟩ := open_bu (hval 0 39 v0 rfl rfl) h0
  have k1 := h1
  have lt1 : ∀ x ∈ p1, x.block < W.heap.size := by obtain ⟨m, hm⟩ := k1; exact DataW.trod_lt m _ _ _ hm
  obtain ⟨l1, rfl, w1⟩ := open_bu (hval 1 39 v1 rfl rfl) h1
  obtain ⟨a2, rfl, rfl, rfl, w2⟩ := open_int Try.underlying3 (hval 2 3 v2 rfl rfl) h2
  clear hA0 hval0
  refine (frameBundles_walk W l0 w0 l1 w1 a2 (i64_of_wf w2)).mono fun e W' ⟨he, bel⟩ => ?_
  subst he
  exact ⟨_, rfl, _, _, _, [], _, [], hW', trodAll_mk1 (shut_bool Try.underlying4 _), (trodAll_cons_mk (Below.trod laidOut (by kernel_rfl) (of_decide_eq_true (by kernel_rfl)) k0 bel lt0) (trodAll_cons_mk (Below.trod laidOut (by kernel_rfl) (of_decide_eq_true (by kernel_rfl)) k1 bel lt1) (trodAll_cons_mk (shut_int Try.underlying3 w2) trodAll_mk0))), rfl, bel.frame _, fun h => by cases h⟩

theorem over : Rows.frameBundlesRow.holds Try.pinned (OpenSpec.ofChange Rows.frameBundlesSpec) :=
  OpenClaim.holds_of_wide 8 Try.f8 rfl rfl rfl rfl rfl rfl rfl ⟨rfl, rfl, rfl, rfl, rfl⟩ rfl rfl rfl rfl rfl (by kernel_rfl) Try.func8 (by kernel_rfl)
    (of_decide_eq_true (by kernel_rfl)) (by unfold Func.isWrapper; first | (rw [if_pos (by decide +kernel)]; kernel_rfl) | (rw [if_neg (by decide +kernel)]; exact ⟨rfl, rfl⟩))
    (fun os started H enc _ => lifted os started H enc)

theorem proved : Rows.FrameBundlesSaid := over
#print axioms proved
end Go.Proofs.Ytmhhjdiilmgmoaa.frameBundles
end
