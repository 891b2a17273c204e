/-
  FrameBack: for every input the call returns true, and each argument reads as it read before. Conditions: none beyond the given statement's own.
-/
import Derived.Test.YtmhhjdiilmgmoaaQFrmAN
import Derived.Test.YtmhhjdiilmgmoaaRows
import Derived.OpenShut
import Derived.ShutString
import Derived.ChangeOld
section
namespace Go.Proofs.Ytmhhjdiilmgmoaa
open Go.RowKit
set_option linter.unusedVariables false
set_option maxRecDepth 20000

theorem core_front {f : Fr} (h : checkE f = 0) (hg : f.Good) : (encB f).take (coreB f).length = coreB f ∧ (coreB f).length < (encB f).length := by
  refine ⟨by rw [encB, List.take_left], ?_⟩
  have h1 := (encB_length h hg).1
  have h2 := coreB_length hg.1
  omega
set_option maxHeartbeats 8000000 in
theorem frameBack_walk (w : World) (v : Value) (f : Fr) (h : FrV w v f ∧ f.Ok ∧ ∀ l ∈ f.sign, l.length = 32) (left : Int) (hleft : -9223372036854775808 ≤ left ∧ left ≤ 9223372036854775807) :
    Calls Try.prog 5 #[v, .int .i64 left] w (RetV w (.bool true)) := by
  obtain ⟨⟨bv, sv, rfl, ho, h1, h2⟩, _, s1⟩ := h
  have HO := Lib.hid ho
  have GF : Hid f.Good := ⟨ho, s1⟩
  have Y1 := Lib.hid h1
  have Y2 := Lib.hid h2
  have CA := Lib.hid (fun w => awake_true w)
  obtain ⟨q, hq⟩ : ∃ q, q = shortF f := ⟨_, rfl⟩
  have C0 : Hid (∀ w v, FrV w v f → Calls Try.prog 10 #[v] w fun e w' => e = .returned (.bool q) ∧ Below w.heap.size w w') := fun w v h => by rw [hq]; exact short_any w v f h
  have CE : Hid (∀ w v, FrV w v f → Calls Try.prog 14 #[v] w fun e w' => ∃ u, e = .returned (.tuple #[u, .int .i64 (checkE f)]) ∧ Bs w' u (encO f) ∧ Below w.heap.size w w') := fun w v h => encode_any w v f h
  clear hq ho s1
  obtain ⟨A, c, rfl, _⟩ := h1
  obtain ⟨B, d, rfl, _⟩ := h2
  cases q with
  | false =>
    go_enter Try.func5, Try.ntmps5
    go_wp2_with (first
      | ((with_reducible refine wpList_box_row (o := ⟨some 2, _, _, _, _, _⟩) rfl 28 (.tmp 0) rfl (frC f (.slice A f.box.length c) (.slice B f.sign.length d)) (by with_unfolding_all rfl) ?_); intro g2 w1 n1; have Rg2_1 := Lib.hid n1.row; have B1 := Lib.hid (n1.below); clear n1))
    refine (CA.out _).mono ?_
    intro e w2 hh
    obtain ⟨he, b1⟩ := hh
    subst he
    have B2 := Lib.hid (below_size B1.out b1)
    have Rg2_2 := Lib.hid (Rg2_1.out.kept b1)
    clear b1 B1 Rg2_1
    go_wp2_with (first
      | (with_reducible refine wpList_load_row (o := ⟨some 21, _, _, _, _, _⟩) rfl 28 (.tmp 2) rfl g2 (by with_unfolding_all rfl) 28 (frC f (.slice A f.box.length c) (.slice B f.sign.length d)) (0, 0) _ (by with_unfolding_all exact Rg2_2.out) Try.underlying28 rfl (Try.sizeFr HO.out _ _) ?_))
    refine (C0.out _ _ ⟨_, _, rfl, HO.out, Y1.out.below B2.out, Y2.out.below B2.out⟩).mono ?_
    intro e w3 hh
    obtain ⟨he, b1⟩ := hh
    subst he
    have B3 := Lib.hid (below_size B2.out b1)
    have Rg2_3 := Lib.hid (Rg2_2.out.kept b1)
    clear b1 B2 Rg2_2
    go_wp2
    go_ret
    exact ⟨rfl, B3.out⟩
  | true =>
    by_cases a0 : checkE f = 0
    rotate_left
    · have eo : encO f = [] := if_neg a0
      rw [eo] at CE
      obtain ⟨E, hE⟩ : ∃ E, E = checkE f := ⟨_, rfl⟩
      rw [← hE] at CE a0
      have d0 : (E != 0) = true := by simpa using a0
      clear hE a0 eo
      go_enter Try.func5, Try.ntmps5
      go_wp2_with (first
        | ((with_reducible refine wpList_box_row (o := ⟨some 2, _, _, _, _, _⟩) rfl 28 (.tmp 0) rfl (frC f (.slice A f.box.length c) (.slice B f.sign.length d)) (by with_unfolding_all rfl) ?_); intro g2 w1 n1; have Rg2_1 := Lib.hid n1.row; have B1 := Lib.hid (n1.below); clear n1))
      refine (CA.out _).mono ?_
      intro e w2 hh
      obtain ⟨he, b1⟩ := hh
      subst he
      have B2 := Lib.hid (below_size B1.out b1)
      have Rg2_2 := Lib.hid (Rg2_1.out.kept b1)
      clear b1 B1 Rg2_1
      go_wp2_with (first
        | (with_reducible refine wpList_load_row (o := ⟨some 21, _, _, _, _, _⟩) rfl 28 (.tmp 2) rfl g2 (by with_unfolding_all rfl) 28 (frC f (.slice A f.box.length c) (.slice B f.sign.length d)) (0, 0) _ (by with_unfolding_all exact Rg2_2.out) Try.underlying28 rfl (Try.sizeFr HO.out _ _) ?_))
      refine (C0.out _ _ ⟨_, _, rfl, HO.out, Y1.out.below B2.out, Y2.out.below B2.out⟩).mono ?_
      intro e w3 hh
      obtain ⟨he, b1⟩ := hh
      subst he
      have B3 := Lib.hid (below_size B2.out b1)
      have Rg2_3 := Lib.hid (Rg2_2.out.kept b1)
      clear b1 B2 Rg2_2
      go_wp2_with (first
        | (with_reducible refine wpList_load_row (o := ⟨some 27, _, _, _, _, _⟩) rfl 28 (.tmp 2) rfl g2 (by with_unfolding_all rfl) 28 (frC f (.slice A f.box.length c) (.slice B f.sign.length d)) (0, 0) _ (by with_unfolding_all exact Rg2_3.out) Try.underlying28 rfl (Try.sizeFr HO.out _ _) ?_))
      refine (CE.out _ _ ⟨_, _, rfl, HO.out, Y1.out.below B3.out, Y2.out.below B3.out⟩).mono ?_
      intro e w4 hh
      obtain ⟨u, he, hu, b1⟩ := hh
      subst he
      have B4 := Lib.hid (below_size B3.out b1)
      have Rg2_4 := Lib.hid (Rg2_3.out.kept b1)
      obtain ⟨aA, cA, rfl, _⟩ := hu
      clear b1 B3 Rg2_3
      go_wp2
      go_ret
      exact ⟨rfl, B4.out⟩
    have eo : encO f = encB f := if_pos a0
    have el := (encB_length a0 GF.out)
    obtain ⟨cf1, cf2⟩ := core_front a0 GF.out
    have co : coreO f = coreB f := if_pos (check_zero a0).1
    obtain ⟨L, hL⟩ : ∃ L, L = encB f := ⟨_, rfl⟩
    obtain ⟨N, hN⟩ : ∃ N, N = coreB f := ⟨_, rfl⟩
    obtain ⟨W, hW⟩ : ∃ W, W = bdW L := ⟨_, rfl⟩
    rw [← hL] at eo el cf1 cf2
    rw [← hN] at co cf1 cf2
    have wn : W ≠ 0 := by rw [hW, hL]; exact enc_no_bundle a0 GF.out
    have LL : Hid (L.length ≤ 2519) := el.2
    have TK : Hid (L.take N.length = N) := cf1
    have d1 : (W != 0) = true := by simpa using wn
    rw [a0, eo] at CE
    have hsl : f.sign.length ≤ 1000 := by have := (check_zero a0).2; omega
    have C2 : Hid (∀ w v, Bs w v L → Calls Try.prog 18 #[v] w fun e w' => ∃ u, e = .returned (.tuple #[u, .int .i64 0]) ∧ FrV w' u f ∧ Below w.heap.size w w') := fun w v h => by
      have := decode_any w v L h
      rwa [hL, (dec_enc a0 GF.out).1, (dec_enc a0 GF.out).2] at this
    have C3 : Hid (∀ w v, FrV w v f → Calls Try.prog 12 #[v] w fun e w' => ∃ u, e = .returned (.tuple #[u, .int .i64 0]) ∧ Bs w' u N ∧ Below w.heap.size w w') := fun w v h => by
      have := core_any w v f h
      rwa [(check_zero a0).1, co] at this
    have C4 : Hid (∀ w v, Bs w v L → Calls Try.prog 20 #[v] w fun e w' => (∃ Q, BuOk Q ∧ e = .returned (.tuple #[.agg (keyC Q.flatten), .int .i64 W])) ∧ Below w.heap.size w w') := fun w v h => (decodeBundle_any w v L h (by have := LL.out; omega)).mono fun e w' ⟨he, hq, hb⟩ => ⟨⟨_, hq, by rw [hW]; exact he⟩, hb⟩
    have C5 : Hid (∀ w v, Bs w v (L ++ [0]) → Calls Try.prog 18 #[v] w fun e w' => ∃ u, e = .returned (.tuple #[u, .int .i64 50]) ∧ FrV w' u (decF (L ++ [0])) ∧ Below w.heap.size w w') := fun w v h => by
      have := decode_any w v (L ++ [0]) h
      rwa [show decE (L ++ [0]) = 50 by rw [hL]; exact dec_more a0 GF.out 0] at this
    have C6 : Hid (∀ w a c, FrV w a f → FrV w c f → Calls Try.prog 22 #[a, c] w fun e w' => e = .returned (.bool true) ∧ Below w.heap.size w w') := fun w a c h1 h2 => by
      have := refSame_any w a c f f h1 h2 hsl
      rwa [(sameF_iff f f).2 rfl] at this
    have C7 : Hid (∀ n, n < L.length → ∀ w v, Bs w v (L.take n) → Calls Try.prog 18 #[v] w fun e w' => ∃ u, e = .returned (.tuple #[u, .int .i64 3]) ∧ FrV w' u (decF (L.take n)) ∧ Below w.heap.size w w') := fun n hn w v h => by
      have := decode_any w v (L.take n) h
      rwa [show decE (L.take n) = 3 by rw [hL] at hn ⊢; exact dec_less a0 GF.out n hn] at this
    have C8 : Hid (∀ w a b, Bs w a N → Bs w b (L.take N.length) → Calls Try.prog 17 #[a, b] w (RetV w (.bool true))) := fun w a b h1 h2 => by rw [TK.out] at h2; exact same_yes w a b _ h1 h2
    obtain ⟨G, hG⟩ : ∃ G, G = decF (L ++ [0]) := ⟨_, rfl⟩
    rw [← hG] at C5
    have g1 : decide (L.length < N.length) = false := by simp; omega
    have g2' : decide (N.length < L.length) = true := by simp; omega
    have g3' : ¬ L.length < N.length := by omega
    have g4' : N.length < L.length := cf2
    have CF2 := Lib.hid cf2
    clear hL hN hW wn el cf1 cf2 co eo a0 hsl hG TK g4'
    by_cases b0 : left < 0
    · have d2 : decide (left < 0) = true := by simp; omega
      clear b0 C7 C8
      go_enter Try.func5, Try.ntmps5
      go_wp2_with (first
        | ((with_reducible refine wpList_box_row (o := ⟨some 2, _, _, _, _, _⟩) rfl 28 (.tmp 0) rfl (frC f (.slice A f.box.length c) (.slice B f.sign.length d)) (by with_unfolding_all rfl) ?_); intro g2 w1 n1; have Rg2_1 := Lib.hid n1.row; have B1 := Lib.hid (n1.below); clear n1))
      refine (CA.out _).mono ?_
      intro e w2 hh
      obtain ⟨he, b1⟩ := hh
      subst he
      have B2 := Lib.hid (below_size B1.out b1)
      have Rg2_2 := Lib.hid (Rg2_1.out.kept b1)
      clear b1 B1 Rg2_1
      go_wp2_with (first
        | (with_reducible refine wpList_load_row (o := ⟨some 21, _, _, _, _, _⟩) rfl 28 (.tmp 2) rfl g2 (by with_unfolding_all rfl) 28 (frC f (.slice A f.box.length c) (.slice B f.sign.length d)) (0, 0) _ (by with_unfolding_all exact Rg2_2.out) Try.underlying28 rfl (Try.sizeFr HO.out _ _) ?_))
      refine (C0.out _ _ ⟨_, _, rfl, HO.out, Y1.out.below B2.out, Y2.out.below B2.out⟩).mono ?_
      intro e w3 hh
      obtain ⟨he, b1⟩ := hh
      subst he
      have B3 := Lib.hid (below_size B2.out b1)
      have Rg2_3 := Lib.hid (Rg2_2.out.kept b1)
      clear b1 B2 Rg2_2
      go_wp2_with (first
        | (with_reducible refine wpList_load_row (o := ⟨some 27, _, _, _, _, _⟩) rfl 28 (.tmp 2) rfl g2 (by with_unfolding_all rfl) 28 (frC f (.slice A f.box.length c) (.slice B f.sign.length d)) (0, 0) _ (by with_unfolding_all exact Rg2_3.out) Try.underlying28 rfl (Try.sizeFr HO.out _ _) ?_))
      refine (CE.out _ _ ⟨_, _, rfl, HO.out, Y1.out.below B3.out, Y2.out.below B3.out⟩).mono ?_
      intro e w4 hh
      obtain ⟨u, he, hu, b1⟩ := hh
      subst he
      have B4 := Lib.hid (below_size B3.out b1)
      have Rg2_4 := Lib.hid (Rg2_3.out.kept b1)
      have Va_4 := Lib.hid hu
      obtain ⟨aA, cA, rfl, qA1, qA, _⟩ := hu
      unfold maxLen at qA
      have hNc : N.length ≤ cA := by have := CF2.out; omega
      have HQ1 := Lib.hid qA1
      clear qA1
      clear b1 B3 Rg2_3
      go_wp2_with fail
      refine (C2.out _ _ Va_4.out).mono ?_
      intro e w5 hh
      obtain ⟨u, he, hu, b1⟩ := hh
      subst he
      have B5 := Lib.hid (below_size B4.out b1)
      have Rg2_5 := Lib.hid (Rg2_4.out.kept b1)
      have Va_5 := Lib.hid (Va_4.out.below b1)
      obtain ⟨bu, su, rfl, ho, hb, hs⟩ := hu
      have Xb_5 := Lib.hid hb
      have Xs_5 := Lib.hid hs
      obtain ⟨Ad, cd, rfl, _⟩ := hb
      obtain ⟨Dd, dd, rfl, _⟩ := hs
      clear ho
      clear b1 B4 Rg2_4 Va_4
      go_wp2_with (first
        | ((with_reducible refine wpList_alloc_row (o := ⟨some 9, _, _, _, _, _⟩) rfl 28 rfl (frC zeroFr nilS nilS) Try.zeroOfFr ?_); intro g9 x6 n6; have N6 := Lib.hid n6; clear n6)
        | ((with_reducible refine wpList_store_row (o := ⟨none, _, _, _, _, _⟩) rfl 28 (.tmp 9) (.tmp 42) rfl g9 28 (frC zeroFr nilS nilS) (frC f (.slice Ad f.box.length cd) (.slice Dd f.sign.length dd)) ?h1_6_3 ?h2_6_3 ?h3_6_3 ?h4_6_3 ?h5_6_3 ?h6_6_3 ?h7_6_3); (case h1_6_3 => with_unfolding_all rfl); (case h2_6_3 => with_unfolding_all rfl); (case h3_6_3 => exact N6.out.row); (case h4_6_3 => rw [frC_size zeroFr_ok, frC_size HO.out]); (case h5_6_3 => exact Try.sizeFr HO.out _ _); (case h6_6_3 => exact frC_one _ _ _ rfl rfl); intro w6 p6; have L6 := (laid_put N6.out p6).1; have Rg9_6 := Lib.hid p6.row; have B6 := Lib.hid (below_size B5.out L6); have Rg2_6 := Lib.hid (Rg2_5.out.kept L6); have Va_6 := Lib.hid (Va_5.out.below L6); have Xb_6 := Lib.hid (Xb_5.out.below L6); have Xs_6 := Lib.hid (Xs_5.out.below L6); clear L6 p6 N6 B5 Rg2_5 Va_5 Xb_5 Xs_5)
        | (with_reducible refine wpList_load_row (o := ⟨some 45, _, _, _, _, _⟩) rfl 28 (.tmp 2) rfl g2 (by with_unfolding_all rfl) 28 (frC f (.slice A f.box.length c) (.slice B f.sign.length d)) (0, 0) _ (by with_unfolding_all exact Rg2_6.out) Try.underlying28 rfl (Try.sizeFr HO.out _ _) ?_))
      refine (C3.out _ _ ⟨_, _, rfl, HO.out, Y1.out.below B6.out, Y2.out.below B6.out⟩).mono ?_
      intro e w7 hh
      obtain ⟨u, he, hu, b1⟩ := hh
      subst he
      have B7 := Lib.hid (below_size B6.out b1)
      have Rg2_7 := Lib.hid (Rg2_6.out.kept b1)
      have Va_7 := Lib.hid (Va_6.out.below b1)
      have Xb_7 := Lib.hid (Xb_6.out.below b1)
      have Xs_7 := Lib.hid (Xs_6.out.below b1)
      have Rg9_7 := Lib.hid (Rg9_6.out.kept b1)
      have Vb_7 := Lib.hid hu
      obtain ⟨aB, cB, rfl, _⟩ := hu
      clear b1 B6 Rg2_6 Va_6 Xb_6 Xs_6 Rg9_6
      go_wp2_with fail
      refine (C4.out _ _ Va_7.out).mono ?_
      intro e w8 hh
      obtain ⟨⟨Q, hq, he⟩, b1⟩ := hh
      subst he
      have B8 := Lib.hid (below_size B7.out b1)
      have Rg2_8 := Lib.hid (Rg2_7.out.kept b1)
      have Va_8 := Lib.hid (Va_7.out.below b1)
      have Xb_8 := Lib.hid (Xb_7.out.below b1)
      have Xs_8 := Lib.hid (Xs_7.out.below b1)
      have Rg9_8 := Lib.hid (Rg9_7.out.kept b1)
      have Vb_8 := Lib.hid (Vb_7.out.below b1)
      have O3 := Lib.hid hq
      clear hq
      clear b1 B7 Rg2_7 Va_7 Xb_7 Xs_7 Rg9_7 Vb_7
      go_wp2_with (first
        | ((with_reducible refine wpList_alloc_row (o := ⟨some 13, _, _, _, _, _⟩) rfl 39 rfl (keyC zeroBu.flatten) Try.zeroOfBu ?_); intro g13 x9 n9; have N9 := Lib.hid n9; clear n9)
        | ((with_reducible refine wpList_store_row (o := ⟨none, _, _, _, _, _⟩) rfl 39 (.tmp 13) (.tmp 52) rfl g13 39 (keyC zeroBu.flatten) (keyC Q.flatten) ?h1_9_3 ?h2_9_3 ?h3_9_3 ?h4_9_3 ?h5_9_3 ?h6_9_3 ?h7_9_3); (case h1_9_3 => with_unfolding_all rfl); (case h2_9_3 => with_unfolding_all rfl); (case h3_9_3 => exact N9.out.row); (case h4_9_3 => rw [zeroBu_ok.size, BuOk.size O3.out]); (case h5_9_3 => exact Try.sizeBu O3.out); (case h6_9_3 => exact keyC_one _); intro w9 p9; have L9 := (laid_put N9.out p9).1; have Rg13_9 := Lib.hid p9.row; have B9 := Lib.hid (below_size B8.out L9); have Rg2_9 := Lib.hid (Rg2_8.out.kept L9); have Va_9 := Lib.hid (Va_8.out.below L9); have Xb_9 := Lib.hid (Xb_8.out.below L9); have Xs_9 := Lib.hid (Xs_8.out.below L9); have Rg9_9 := Lib.hid (Rg9_8.out.kept L9); have Vb_9 := Lib.hid (Vb_8.out.below L9); clear L9 p9 N9 B8 Rg2_8 Va_8 Xb_8 Xs_8 Rg9_8 Vb_8)
        | ((with_reducible refine wpList_appB _ (o := ⟨some 57, _, _, _, _, _⟩) rfl (.tmp 55) (.tmp 56) 25 rfl w9 5 (by kernel_rfl) Try.underlying25 (.slice (some ⟨w9.heap.size, 0, none⟩) 0 0) (.slice aA L.length cA) [] L (by with_unfolding_all rfl) (by with_unfolding_all rfl) (by with_unfolding_all exact lit_ownF w9 [] #[] rfl (by simp [maxLen])) (Va_9.out.below (alloc_below _ _)) (by have := LL.out; simp; omega) (alloc_below _ _) ?_); intro va xa oa ba; have OA := Lib.hid oa; have BA := Lib.hid ba; clear oa ba)
        | ((with_reducible refine wpList_appB _ (o := ⟨some 59, _, _, _, _, _⟩) rfl (.tmp 57) (.tmp 58) 25 rfl w9 5 (by kernel_rfl) Try.underlying25 va (.slice (some ⟨xa.heap.size, 0, none⟩) 1 1) ([] ++ L) [0] (by with_unfolding_all rfl) (by with_unfolding_all rfl) (OA.out.alloc _) (by with_unfolding_all exact Bs.lit xa 5 [0] #[.int .u8 0] rfl (by simp [maxLen])) (by have := LL.out; simp; omega) (below_size BA.out (alloc_below _ _)) ?_); intro vz w10 oz bz; rw [List.nil_append] at oz; have Vc_10 := Lib.hid oz.bs; have B10 := Lib.hid (below_size B9.out bz); have Rg2_10 := Lib.hid (Rg2_9.out.kept bz); have Va_10 := Lib.hid (Va_9.out.below bz); have Xb_10 := Lib.hid (Xb_9.out.below bz); have Xs_10 := Lib.hid (Xs_9.out.below bz); have Rg9_10 := Lib.hid (Rg9_9.out.kept bz); have Vb_10 := Lib.hid (Vb_9.out.below bz); have Rg13_10 := Lib.hid (Rg13_9.out.kept bz); clear bz oz OA BA B9 Rg2_9 Va_9 Xb_9 Xs_9 Rg9_9 Vb_9 Rg13_9))
      refine (C5.out _ _ Vc_10.out).mono ?_
      intro e w11 hh
      obtain ⟨u, he, hu, b1⟩ := hh
      subst he
      have B11 := Lib.hid (below_size B10.out b1)
      have Rg2_11 := Lib.hid (Rg2_10.out.kept b1)
      have Va_11 := Lib.hid (Va_10.out.below b1)
      have Xb_11 := Lib.hid (Xb_10.out.below b1)
      have Xs_11 := Lib.hid (Xs_10.out.below b1)
      have Rg9_11 := Lib.hid (Rg9_10.out.kept b1)
      have Vb_11 := Lib.hid (Vb_10.out.below b1)
      have Rg13_11 := Lib.hid (Rg13_10.out.kept b1)
      have Vc_11 := Lib.hid (Vc_10.out.below b1)
      obtain ⟨bu, su, rfl, ho, hb, hs⟩ := hu
      have O4 := Lib.hid ho
      obtain ⟨Ae, ce, rfl, _⟩ := hb
      obtain ⟨De, de, rfl, _⟩ := hs
      clear ho
      clear b1 B10 Rg2_10 Va_10 Xb_10 Xs_10 Rg9_10 Vb_10 Rg13_10 Vc_10
      go_wp2_with (first
        | ((with_reducible refine wpList_alloc_row (o := ⟨some 15, _, _, _, _, _⟩) rfl 28 rfl (frC zeroFr nilS nilS) Try.zeroOfFr ?_); intro g15 x12 n12; have N12 := Lib.hid n12; clear n12)
        | ((with_reducible refine wpList_store_row (o := ⟨none, _, _, _, _, _⟩) rfl 28 (.tmp 15) (.tmp 61) rfl g15 28 (frC zeroFr nilS nilS) (frC G (.slice Ae G.box.length ce) (.slice De G.sign.length de)) ?h1_12_3 ?h2_12_3 ?h3_12_3 ?h4_12_3 ?h5_12_3 ?h6_12_3 ?h7_12_3); (case h1_12_3 => with_unfolding_all rfl); (case h2_12_3 => with_unfolding_all rfl); (case h3_12_3 => exact N12.out.row); (case h4_12_3 => rw [frC_size zeroFr_ok, frC_size O4.out]); (case h5_12_3 => exact Try.sizeFr O4.out _ _); (case h6_12_3 => exact frC_one _ _ _ rfl rfl); intro w12 p12; have L12 := (laid_put N12.out p12).1; have Rg15_12 := Lib.hid p12.row; have B12 := Lib.hid (below_size B11.out L12); have Rg2_12 := Lib.hid (Rg2_11.out.kept L12); have Va_12 := Lib.hid (Va_11.out.below L12); have Xb_12 := Lib.hid (Xb_11.out.below L12); have Xs_12 := Lib.hid (Xs_11.out.below L12); have Rg9_12 := Lib.hid (Rg9_11.out.kept L12); have Vb_12 := Lib.hid (Vb_11.out.below L12); have Rg13_12 := Lib.hid (Rg13_11.out.kept L12); have Vc_12 := Lib.hid (Vc_11.out.below L12); clear L12 p12 N12 B11 Rg2_11 Va_11 Xb_11 Xs_11 Rg9_11 Vb_11 Rg13_11 Vc_11)
        | (with_reducible refine wpList_load_row (o := ⟨some 63, _, _, _, _, _⟩) rfl 28 (.tmp 2) rfl g2 (by with_unfolding_all rfl) 28 (frC f (.slice A f.box.length c) (.slice B f.sign.length d)) (0, 0) _ (by with_unfolding_all exact Rg2_12.out) Try.underlying28 rfl (Try.sizeFr HO.out _ _) ?_)
        | (with_reducible refine wpList_load_row (o := ⟨some 64, _, _, _, _, _⟩) rfl 28 (.tmp 9) rfl g9 (by with_unfolding_all rfl) 28 (frC f (.slice Ad f.box.length cd) (.slice Dd f.sign.length dd)) (0, 0) _ (by with_unfolding_all exact Rg9_12.out) Try.underlying28 rfl (Try.sizeFr HO.out _ _) ?_))
      refine (C6.out _ _ _ ⟨_, _, rfl, HO.out, Y1.out.below B12.out, Y2.out.below B12.out⟩ ⟨_, _, rfl, HO.out, Xb_12.out, Xs_12.out⟩).mono ?_
      intro e w13 hh
      obtain ⟨he, b1⟩ := hh
      subst he
      have B13 := Lib.hid (below_size B12.out b1)
      have Rg2_13 := Lib.hid (Rg2_12.out.kept b1)
      have Va_13 := Lib.hid (Va_12.out.below b1)
      have Xb_13 := Lib.hid (Xb_12.out.below b1)
      have Xs_13 := Lib.hid (Xs_12.out.below b1)
      have Rg9_13 := Lib.hid (Rg9_12.out.kept b1)
      have Vb_13 := Lib.hid (Vb_12.out.below b1)
      have Rg13_13 := Lib.hid (Rg13_12.out.kept b1)
      have Vc_13 := Lib.hid (Vc_12.out.below b1)
      have Rg15_13 := Lib.hid (Rg15_12.out.kept b1)
      clear b1 B12 Rg2_12 Va_12 Xb_12 Xs_12 Rg9_12 Vb_12 Rg13_12 Vc_12 Rg15_12
      go_wp2
      go_ret
      exact ⟨rfl, B13.out⟩
    · have d2 : decide (left < 0) = false := by simp; omega
      obtain ⟨n, rfl⟩ : ∃ n : Nat, left = n := ⟨left.toNat, by omega⟩
      by_cases b1 : L.length ≤ n
      · have d3 : decide (L.length ≤ n) = true := by simp; omega
        have d4 : L.length ≤ n := b1
        clear b0 b1 C7 C8
        go_enter Try.func5, Try.ntmps5
        go_wp2_with (first
          | ((with_reducible refine wpList_box_row (o := ⟨some 2, _, _, _, _, _⟩) rfl 28 (.tmp 0) rfl (frC f (.slice A f.box.length c) (.slice B f.sign.length d)) (by with_unfolding_all rfl) ?_); intro g2 w1 n1; have Rg2_1 := Lib.hid n1.row; have B1 := Lib.hid (n1.below); clear n1))
        refine (CA.out _).mono ?_
        intro e w2 hh
        obtain ⟨he, b1⟩ := hh
        subst he
        have B2 := Lib.hid (below_size B1.out b1)
        have Rg2_2 := Lib.hid (Rg2_1.out.kept b1)
        clear b1 B1 Rg2_1
        go_wp2_with (first
          | (with_reducible refine wpList_load_row (o := ⟨some 21, _, _, _, _, _⟩) rfl 28 (.tmp 2) rfl g2 (by with_unfolding_all rfl) 28 (frC f (.slice A f.box.length c) (.slice B f.sign.length d)) (0, 0) _ (by with_unfolding_all exact Rg2_2.out) Try.underlying28 rfl (Try.sizeFr HO.out _ _) ?_))
        refine (C0.out _ _ ⟨_, _, rfl, HO.out, Y1.out.below B2.out, Y2.out.below B2.out⟩).mono ?_
        intro e w3 hh
        obtain ⟨he, b1⟩ := hh
        subst he
        have B3 := Lib.hid (below_size B2.out b1)
        have Rg2_3 := Lib.hid (Rg2_2.out.kept b1)
        clear b1 B2 Rg2_2
        go_wp2_with (first
          | (with_reducible refine wpList_load_row (o := ⟨some 27, _, _, _, _, _⟩) rfl 28 (.tmp 2) rfl g2 (by with_unfolding_all rfl) 28 (frC f (.slice A f.box.length c) (.slice B f.sign.length d)) (0, 0) _ (by with_unfolding_all exact Rg2_3.out) Try.underlying28 rfl (Try.sizeFr HO.out _ _) ?_))
        refine (CE.out _ _ ⟨_, _, rfl, HO.out, Y1.out.below B3.out, Y2.out.below B3.out⟩).mono ?_
        intro e w4 hh
        obtain ⟨u, he, hu, b1⟩ := hh
        subst he
        have B4 := Lib.hid (below_size B3.out b1)
        have Rg2_4 := Lib.hid (Rg2_3.out.kept b1)
        have Va_4 := Lib.hid hu
        obtain ⟨aA, cA, rfl, qA1, qA, _⟩ := hu
        unfold maxLen at qA
        have hNc : N.length ≤ cA := by have := CF2.out; omega
        have HQ1 := Lib.hid qA1
        clear qA1
        clear b1 B3 Rg2_3
        go_wp2_with fail
        refine (C2.out _ _ Va_4.out).mono ?_
        intro e w5 hh
        obtain ⟨u, he, hu, b1⟩ := hh
        subst he
        have B5 := Lib.hid (below_size B4.out b1)
        have Rg2_5 := Lib.hid (Rg2_4.out.kept b1)
        have Va_5 := Lib.hid (Va_4.out.below b1)
        obtain ⟨bu, su, rfl, ho, hb, hs⟩ := hu
        have Xb_5 := Lib.hid hb
        have Xs_5 := Lib.hid hs
        obtain ⟨Ad, cd, rfl, _⟩ := hb
        obtain ⟨Dd, dd, rfl, _⟩ := hs
        clear ho
        clear b1 B4 Rg2_4 Va_4
        go_wp2_with (first
          | ((with_reducible refine wpList_alloc_row (o := ⟨some 9, _, _, _, _, _⟩) rfl 28 rfl (frC zeroFr nilS nilS) Try.zeroOfFr ?_); intro g9 x6 n6; have N6 := Lib.hid n6; clear n6)
          | ((with_reducible refine wpList_store_row (o := ⟨none, _, _, _, _, _⟩) rfl 28 (.tmp 9) (.tmp 42) rfl g9 28 (frC zeroFr nilS nilS) (frC f (.slice Ad f.box.length cd) (.slice Dd f.sign.length dd)) ?h1_6_4 ?h2_6_4 ?h3_6_4 ?h4_6_4 ?h5_6_4 ?h6_6_4 ?h7_6_4); (case h1_6_4 => with_unfolding_all rfl); (case h2_6_4 => with_unfolding_all rfl); (case h3_6_4 => exact N6.out.row); (case h4_6_4 => rw [frC_size zeroFr_ok, frC_size HO.out]); (case h5_6_4 => exact Try.sizeFr HO.out _ _); (case h6_6_4 => exact frC_one _ _ _ rfl rfl); intro w6 p6; have L6 := (laid_put N6.out p6).1; have Rg9_6 := Lib.hid p6.row; have B6 := Lib.hid (below_size B5.out L6); have Rg2_6 := Lib.hid (Rg2_5.out.kept L6); have Va_6 := Lib.hid (Va_5.out.below L6); have Xb_6 := Lib.hid (Xb_5.out.below L6); have Xs_6 := Lib.hid (Xs_5.out.below L6); clear L6 p6 N6 B5 Rg2_5 Va_5 Xb_5 Xs_5)
          | (with_reducible refine wpList_load_row (o := ⟨some 45, _, _, _, _, _⟩) rfl 28 (.tmp 2) rfl g2 (by with_unfolding_all rfl) 28 (frC f (.slice A f.box.length c) (.slice B f.sign.length d)) (0, 0) _ (by with_unfolding_all exact Rg2_6.out) Try.underlying28 rfl (Try.sizeFr HO.out _ _) ?_))
        refine (C3.out _ _ ⟨_, _, rfl, HO.out, Y1.out.below B6.out, Y2.out.below B6.out⟩).mono ?_
        intro e w7 hh
        obtain ⟨u, he, hu, b1⟩ := hh
        subst he
        have B7 := Lib.hid (below_size B6.out b1)
        have Rg2_7 := Lib.hid (Rg2_6.out.kept b1)
        have Va_7 := Lib.hid (Va_6.out.below b1)
        have Xb_7 := Lib.hid (Xb_6.out.below b1)
        have Xs_7 := Lib.hid (Xs_6.out.below b1)
        have Rg9_7 := Lib.hid (Rg9_6.out.kept b1)
        have Vb_7 := Lib.hid hu
        obtain ⟨aB, cB, rfl, _⟩ := hu
        clear b1 B6 Rg2_6 Va_6 Xb_6 Xs_6 Rg9_6
        go_wp2_with fail
        refine (C4.out _ _ Va_7.out).mono ?_
        intro e w8 hh
        obtain ⟨⟨Q, hq, he⟩, b1⟩ := hh
        subst he
        have B8 := Lib.hid (below_size B7.out b1)
        have Rg2_8 := Lib.hid (Rg2_7.out.kept b1)
        have Va_8 := Lib.hid (Va_7.out.below b1)
        have Xb_8 := Lib.hid (Xb_7.out.below b1)
        have Xs_8 := Lib.hid (Xs_7.out.below b1)
        have Rg9_8 := Lib.hid (Rg9_7.out.kept b1)
        have Vb_8 := Lib.hid (Vb_7.out.below b1)
        have O3 := Lib.hid hq
        clear hq
        clear b1 B7 Rg2_7 Va_7 Xb_7 Xs_7 Rg9_7 Vb_7
        go_wp2_with (first
          | ((with_reducible refine wpList_alloc_row (o := ⟨some 13, _, _, _, _, _⟩) rfl 39 rfl (keyC zeroBu.flatten) Try.zeroOfBu ?_); intro g13 x9 n9; have N9 := Lib.hid n9; clear n9)
          | ((with_reducible refine wpList_store_row (o := ⟨none, _, _, _, _, _⟩) rfl 39 (.tmp 13) (.tmp 52) rfl g13 39 (keyC zeroBu.flatten) (keyC Q.flatten) ?h1_9_4 ?h2_9_4 ?h3_9_4 ?h4_9_4 ?h5_9_4 ?h6_9_4 ?h7_9_4); (case h1_9_4 => with_unfolding_all rfl); (case h2_9_4 => with_unfolding_all rfl); (case h3_9_4 => exact N9.out.row); (case h4_9_4 => rw [zeroBu_ok.size, BuOk.size O3.out]); (case h5_9_4 => exact Try.sizeBu O3.out); (case h6_9_4 => exact keyC_one _); intro w9 p9; have L9 := (laid_put N9.out p9).1; have Rg13_9 := Lib.hid p9.row; have B9 := Lib.hid (below_size B8.out L9); have Rg2_9 := Lib.hid (Rg2_8.out.kept L9); have Va_9 := Lib.hid (Va_8.out.below L9); have Xb_9 := Lib.hid (Xb_8.out.below L9); have Xs_9 := Lib.hid (Xs_8.out.below L9); have Rg9_9 := Lib.hid (Rg9_8.out.kept L9); have Vb_9 := Lib.hid (Vb_8.out.below L9); clear L9 p9 N9 B8 Rg2_8 Va_8 Xb_8 Xs_8 Rg9_8 Vb_8)
          | ((with_reducible refine wpList_appB _ (o := ⟨some 57, _, _, _, _, _⟩) rfl (.tmp 55) (.tmp 56) 25 rfl w9 5 (by kernel_rfl) Try.underlying25 (.slice (some ⟨w9.heap.size, 0, none⟩) 0 0) (.slice aA L.length cA) [] L (by with_unfolding_all rfl) (by with_unfolding_all rfl) (by with_unfolding_all exact lit_ownF w9 [] #[] rfl (by simp [maxLen])) (Va_9.out.below (alloc_below _ _)) (by have := LL.out; simp; omega) (alloc_below _ _) ?_); intro va xa oa ba; have OA := Lib.hid oa; have BA := Lib.hid ba; clear oa ba)
          | ((with_reducible refine wpList_appB _ (o := ⟨some 59, _, _, _, _, _⟩) rfl (.tmp 57) (.tmp 58) 25 rfl w9 5 (by kernel_rfl) Try.underlying25 va (.slice (some ⟨xa.heap.size, 0, none⟩) 1 1) ([] ++ L) [0] (by with_unfolding_all rfl) (by with_unfolding_all rfl) (OA.out.alloc _) (by with_unfolding_all exact Bs.lit xa 5 [0] #[.int .u8 0] rfl (by simp [maxLen])) (by have := LL.out; simp; omega) (below_size BA.out (alloc_below _ _)) ?_); intro vz w10 oz bz; rw [List.nil_append] at oz; have Vc_10 := Lib.hid oz.bs; have B10 := Lib.hid (below_size B9.out bz); have Rg2_10 := Lib.hid (Rg2_9.out.kept bz); have Va_10 := Lib.hid (Va_9.out.below bz); have Xb_10 := Lib.hid (Xb_9.out.below bz); have Xs_10 := Lib.hid (Xs_9.out.below bz); have Rg9_10 := Lib.hid (Rg9_9.out.kept bz); have Vb_10 := Lib.hid (Vb_9.out.below bz); have Rg13_10 := Lib.hid (Rg13_9.out.kept bz); clear bz oz OA BA B9 Rg2_9 Va_9 Xb_9 Xs_9 Rg9_9 Vb_9 Rg13_9))
        refine (C5.out _ _ Vc_10.out).mono ?_
        intro e w11 hh
        obtain ⟨u, he, hu, b1⟩ := hh
        subst he
        have B11 := Lib.hid (below_size B10.out b1)
        have Rg2_11 := Lib.hid (Rg2_10.out.kept b1)
        have Va_11 := Lib.hid (Va_10.out.below b1)
        have Xb_11 := Lib.hid (Xb_10.out.below b1)
        have Xs_11 := Lib.hid (Xs_10.out.below b1)
        have Rg9_11 := Lib.hid (Rg9_10.out.kept b1)
        have Vb_11 := Lib.hid (Vb_10.out.below b1)
        have Rg13_11 := Lib.hid (Rg13_10.out.kept b1)
        have Vc_11 := Lib.hid (Vc_10.out.below b1)
        obtain ⟨bu, su, rfl, ho, hb, hs⟩ := hu
        have O4 := Lib.hid ho
        obtain ⟨Ae, ce, rfl, _⟩ := hb
        obtain ⟨De, de, rfl, _⟩ := hs
        clear ho
        clear b1 B10 Rg2_10 Va_10 Xb_10 Xs_10 Rg9_10 Vb_10 Rg13_10 Vc_10
        go_wp2_with (first
          | ((with_reducible refine wpList_alloc_row (o := ⟨some 15, _, _, _, _, _⟩) rfl 28 rfl (frC zeroFr nilS nilS) Try.zeroOfFr ?_); intro g15 x12 n12; have N12 := Lib.hid n12; clear n12)
          | ((with_reducible refine wpList_store_row (o := ⟨none, _, _, _, _, _⟩) rfl 28 (.tmp 15) (.tmp 61) rfl g15 28 (frC zeroFr nilS nilS) (frC G (.slice Ae G.box.length ce) (.slice De G.sign.length de)) ?h1_12_4 ?h2_12_4 ?h3_12_4 ?h4_12_4 ?h5_12_4 ?h6_12_4 ?h7_12_4); (case h1_12_4 => with_unfolding_all rfl); (case h2_12_4 => with_unfolding_all rfl); (case h3_12_4 => exact N12.out.row); (case h4_12_4 => rw [frC_size zeroFr_ok, frC_size O4.out]); (case h5_12_4 => exact Try.sizeFr O4.out _ _); (case h6_12_4 => exact frC_one _ _ _ rfl rfl); intro w12 p12; have L12 := (laid_put N12.out p12).1; have Rg15_12 := Lib.hid p12.row; have B12 := Lib.hid (below_size B11.out L12); have Rg2_12 := Lib.hid (Rg2_11.out.kept L12); have Va_12 := Lib.hid (Va_11.out.below L12); have Xb_12 := Lib.hid (Xb_11.out.below L12); have Xs_12 := Lib.hid (Xs_11.out.below L12); have Rg9_12 := Lib.hid (Rg9_11.out.kept L12); have Vb_12 := Lib.hid (Vb_11.out.below L12); have Rg13_12 := Lib.hid (Rg13_11.out.kept L12); have Vc_12 := Lib.hid (Vc_11.out.below L12); clear L12 p12 N12 B11 Rg2_11 Va_11 Xb_11 Xs_11 Rg9_11 Vb_11 Rg13_11 Vc_11)
          | (with_reducible refine wpList_load_row (o := ⟨some 63, _, _, _, _, _⟩) rfl 28 (.tmp 2) rfl g2 (by with_unfolding_all rfl) 28 (frC f (.slice A f.box.length c) (.slice B f.sign.length d)) (0, 0) _ (by with_unfolding_all exact Rg2_12.out) Try.underlying28 rfl (Try.sizeFr HO.out _ _) ?_)
          | (with_reducible refine wpList_load_row (o := ⟨some 64, _, _, _, _, _⟩) rfl 28 (.tmp 9) rfl g9 (by with_unfolding_all rfl) 28 (frC f (.slice Ad f.box.length cd) (.slice Dd f.sign.length dd)) (0, 0) _ (by with_unfolding_all exact Rg9_12.out) Try.underlying28 rfl (Try.sizeFr HO.out _ _) ?_))
        refine (C6.out _ _ _ ⟨_, _, rfl, HO.out, Y1.out.below B12.out, Y2.out.below B12.out⟩ ⟨_, _, rfl, HO.out, Xb_12.out, Xs_12.out⟩).mono ?_
        intro e w13 hh
        obtain ⟨he, b1⟩ := hh
        subst he
        have B13 := Lib.hid (below_size B12.out b1)
        have Rg2_13 := Lib.hid (Rg2_12.out.kept b1)
        have Va_13 := Lib.hid (Va_12.out.below b1)
        have Xb_13 := Lib.hid (Xb_12.out.below b1)
        have Xs_13 := Lib.hid (Xs_12.out.below b1)
        have Rg9_13 := Lib.hid (Rg9_12.out.kept b1)
        have Vb_13 := Lib.hid (Vb_12.out.below b1)
        have Rg13_13 := Lib.hid (Rg13_12.out.kept b1)
        have Vc_13 := Lib.hid (Vc_12.out.below b1)
        have Rg15_13 := Lib.hid (Rg15_12.out.kept b1)
        clear b1 B12 Rg2_12 Va_12 Xb_12 Xs_12 Rg9_12 Vb_12 Rg13_12 Vc_12 Rg15_12
        go_wp2
        go_ret
        exact ⟨rfl, B13.out⟩
      · have d3 : decide (L.length ≤ n) = false := by simp; omega
        have d4 : ¬ L.length ≤ n := b1
        have HN : Hid (n < L.length) := by show _ < _; omega
        clear b0 b1
        go_enter Try.func5, Try.ntmps5
        go_wp2_with (first
          | ((with_reducible refine wpList_box_row (o := ⟨some 2, _, _, _, _, _⟩) rfl 28 (.tmp 0) rfl (frC f (.slice A f.box.length c) (.slice B f.sign.length d)) (by with_unfolding_all rfl) ?_); intro g2 w1 n1; have Rg2_1 := Lib.hid n1.row; have B1 := Lib.hid (n1.below); clear n1))
        refine (CA.out _).mono ?_
        intro e w2 hh
        obtain ⟨he, b1⟩ := hh
        subst he
        have B2 := Lib.hid (below_size B1.out b1)
        have Rg2_2 := Lib.hid (Rg2_1.out.kept b1)
        clear b1 B1 Rg2_1
        go_wp2_with (first
          | (with_reducible refine wpList_load_row (o := ⟨some 21, _, _, _, _, _⟩) rfl 28 (.tmp 2) rfl g2 (by with_unfolding_all rfl) 28 (frC f (.slice A f.box.length c) (.slice B f.sign.length d)) (0, 0) _ (by with_unfolding_all exact Rg2_2.out) Try.underlying28 rfl (Try.sizeFr HO.out _ _) ?_))
        refine (C0.out _ _ ⟨_, _, rfl, HO.out, Y1.out.below B2.out, Y2.out.below B2.out⟩).mono ?_
        intro e w3 hh
        obtain ⟨he, b1⟩ := hh
        subst he
        have B3 := Lib.hid (below_size B2.out b1)
        have Rg2_3 := Lib.hid (Rg2_2.out.kept b1)
        clear b1 B2 Rg2_2
        go_wp2_with (first
          | (with_reducible refine wpList_load_row (o := ⟨some 27, _, _, _, _, _⟩) rfl 28 (.tmp 2) rfl g2 (by with_unfolding_all rfl) 28 (frC f (.slice A f.box.length c) (.slice B f.sign.length d)) (0, 0) _ (by with_unfolding_all exact Rg2_3.out) Try.underlying28 rfl (Try.sizeFr HO.out _ _) ?_))
        refine (CE.out _ _ ⟨_, _, rfl, HO.out, Y1.out.below B3.out, Y2.out.below B3.out⟩).mono ?_
        intro e w4 hh
        obtain ⟨u, he, hu, b1⟩ := hh
        subst he
        have B4 := Lib.hid (below_size B3.out b1)
        have Rg2_4 := Lib.hid (Rg2_3.out.kept b1)
        have Va_4 := Lib.hid hu
        obtain ⟨aA, cA, rfl, qA1, qA, _⟩ := hu
        unfold maxLen at qA
        have hNc : N.length ≤ cA := by have := CF2.out; omega
        have HQ1 := Lib.hid qA1
        have hnc : n ≤ cA := by have := HN.out; omega
        clear qA1
        clear b1 B3 Rg2_3
        go_wp2_with fail
        refine (C2.out _ _ Va_4.out).mono ?_
        intro e w5 hh
        obtain ⟨u, he, hu, b1⟩ := hh
        subst he
        have B5 := Lib.hid (below_size B4.out b1)
        have Rg2_5 := Lib.hid (Rg2_4.out.kept b1)
        have Va_5 := Lib.hid (Va_4.out.below b1)
        obtain ⟨bu, su, rfl, ho, hb, hs⟩ := hu
        have Xb_5 := Lib.hid hb
        have Xs_5 := Lib.hid hs
        obtain ⟨Ad, cd, rfl, _⟩ := hb
        obtain ⟨Dd, dd, rfl, _⟩ := hs
        clear ho
        clear b1 B4 Rg2_4 Va_4
        go_wp2_with (first
          | ((with_reducible refine wpList_alloc_row (o := ⟨some 9, _, _, _, _, _⟩) rfl 28 rfl (frC zeroFr nilS nilS) Try.zeroOfFr ?_); intro g9 x6 n6; have N6 := Lib.hid n6; clear n6)
          | ((with_reducible refine wpList_store_row (o := ⟨none, _, _, _, _, _⟩) rfl 28 (.tmp 9) (.tmp 42) rfl g9 28 (frC zeroFr nilS nilS) (frC f (.slice Ad f.box.length cd) (.slice Dd f.sign.length dd)) ?h1_6_5 ?h2_6_5 ?h3_6_5 ?h4_6_5 ?h5_6_5 ?h6_6_5 ?h7_6_5); (case h1_6_5 => with_unfolding_all rfl); (case h2_6_5 => with_unfolding_all rfl); (case h3_6_5 => exact N6.out.row); (case h4_6_5 => rw [frC_size zeroFr_ok, frC_size HO.out]); (case h5_6_5 => exact Try.sizeFr HO.out _ _); (case h6_6_5 => exact frC_one _ _ _ rfl rfl); intro w6 p6; have L6 := (laid_put N6.out p6).1; have Rg9_6 := Lib.hid p6.row; have B6 := Lib.hid (below_size B5.out L6); have Rg2_6 := Lib.hid (Rg2_5.out.kept L6); have Va_6 := Lib.hid (Va_5.out.below L6); have Xb_6 := Lib.hid (Xb_5.out.below L6); have Xs_6 := Lib.hid (Xs_5.out.below L6); clear L6 p6 N6 B5 Rg2_5 Va_5 Xb_5 Xs_5)
          | (with_reducible refine wpList_load_row (o := ⟨some 45, _, _, _, _, _⟩) rfl 28 (.tmp 2) rfl g2 (by with_unfolding_all rfl) 28 (frC f (.slice A f.box.length c) (.slice B f.sign.length d)) (0, 0) _ (by with_unfolding_all exact Rg2_6.out) Try.underlying28 rfl (Try.sizeFr HO.out _ _) ?_))
        refine (C3.out _ _ ⟨_, _, rfl, HO.out, Y1.out.below B6.out, Y2.out.below B6.out⟩).mono ?_
        intro e w7 hh
        obtain ⟨u, he, hu, b1⟩ := hh
        subst he
        have B7 := Lib.hid (below_size B6.out b1)
        have Rg2_7 := Lib.hid (Rg2_6.out.kept b1)
        have Va_7 := Lib.hid (Va_6.out.below b1)
        have Xb_7 := Lib.hid (Xb_6.out.below b1)
        have Xs_7 := Lib.hid (Xs_6.out.below b1)
        have Rg9_7 := Lib.hid (Rg9_6.out.kept b1)
        have Vb_7 := Lib.hid hu
        obtain ⟨aB, cB, rfl, _⟩ := hu
        clear b1 B6 Rg2_6 Va_6 Xb_6 Xs_6 Rg9_6
        go_wp2_with fail
        refine (C4.out _ _ Va_7.out).mono ?_
        intro e w8 hh
        obtain ⟨⟨Q, hq, he⟩, b1⟩ := hh
        subst he
        have B8 := Lib.hid (below_size B7.out b1)
        have Rg2_8 := Lib.hid (Rg2_7.out.kept b1)
        have Va_8 := Lib.hid (Va_7.out.below b1)
        have Xb_8 := Lib.hid (Xb_7.out.below b1)
        have Xs_8 := Lib.hid (Xs_7.out.below b1)
        have Rg9_8 := Lib.hid (Rg9_7.out.kept b1)
        have Vb_8 := Lib.hid (Vb_7.out.below b1)
        have O3 := Lib.hid hq
        clear hq
        clear b1 B7 Rg2_7 Va_7 Xb_7 Xs_7 Rg9_7 Vb_7
        go_wp2_with (first
          | ((with_reducible refine wpList_alloc_row (o := ⟨some 13, _, _, _, _, _⟩) rfl 39 rfl (keyC zeroBu.flatten) Try.zeroOfBu ?_); intro g13 x9 n9; have N9 := Lib.hid n9; clear n9)
          | ((with_reducible refine wpList_store_row (o := ⟨none, _, _, _, _, _⟩) rfl 39 (.tmp 13) (.tmp 52) rfl g13 39 (keyC zeroBu.flatten) (keyC Q.flatten) ?h1_9_5 ?h2_9_5 ?h3_9_5 ?h4_9_5 ?h5_9_5 ?h6_9_5 ?h7_9_5); (case h1_9_5 => with_unfolding_all rfl); (case h2_9_5 => with_unfolding_all rfl); (case h3_9_5 => exact N9.out.row); (case h4_9_5 => rw [zeroBu_ok.size, BuOk.size O3.out]); (case h5_9_5 => exact Try.sizeBu O3.out); (case h6_9_5 => exact keyC_one _); intro w9 p9; have L9 := (laid_put N9.out p9).1; have Rg13_9 := Lib.hid p9.row; have B9 := Lib.hid (below_size B8.out L9); have Rg2_9 := Lib.hid (Rg2_8.out.kept L9); have Va_9 := Lib.hid (Va_8.out.below L9); have Xb_9 := Lib.hid (Xb_8.out.below L9); have Xs_9 := Lib.hid (Xs_8.out.below L9); have Rg9_9 := Lib.hid (Rg9_8.out.kept L9); have Vb_9 := Lib.hid (Vb_8.out.below L9); clear L9 p9 N9 B8 Rg2_8 Va_8 Xb_8 Xs_8 Rg9_8 Vb_8)
          | ((with_reducible refine wpList_appB _ (o := ⟨some 57, _, _, _, _, _⟩) rfl (.tmp 55) (.tmp 56) 25 rfl w9 5 (by kernel_rfl) Try.underlying25 (.slice (some ⟨w9.heap.size, 0, none⟩) 0 0) (.slice aA L.length cA) [] L (by with_unfolding_all rfl) (by with_unfolding_all rfl) (by with_unfolding_all exact lit_ownF w9 [] #[] rfl (by simp [maxLen])) (Va_9.out.below (alloc_below _ _)) (by have := LL.out; simp; omega) (alloc_below _ _) ?_); intro va xa oa ba; have OA := Lib.hid oa; have BA := Lib.hid ba; clear oa ba)
          | ((with_reducible refine wpList_appB _ (o := ⟨some 59, _, _, _, _, _⟩) rfl (.tmp 57) (.tmp 58) 25 rfl w9 5 (by kernel_rfl) Try.underlying25 va (.slice (some ⟨xa.heap.size, 0, none⟩) 1 1) ([] ++ L) [0] (by with_unfolding_all rfl) (by with_unfolding_all rfl) (OA.out.alloc _) (by with_unfolding_all exact Bs.lit xa 5 [0] #[.int .u8 0] rfl (by simp [maxLen])) (by have := LL.out; simp; omega) (below_size BA.out (alloc_below _ _)) ?_); intro vz w10 oz bz; rw [List.nil_append] at oz; have Vc_10 := Lib.hid oz.bs; have B10 := Lib.hid (below_size B9.out bz); have Rg2_10 := Lib.hid (Rg2_9.out.kept bz); have Va_10 := Lib.hid (Va_9.out.below bz); have Xb_10 := Lib.hid (Xb_9.out.below bz); have Xs_10 := Lib.hid (Xs_9.out.below bz); have Rg9_10 := Lib.hid (Rg9_9.out.kept bz); have Vb_10 := Lib.hid (Vb_9.out.below bz); have Rg13_10 := Lib.hid (Rg13_9.out.kept bz); clear bz oz OA BA B9 Rg2_9 Va_9 Xb_9 Xs_9 Rg9_9 Vb_9 Rg13_9))
        refine (C5.out _ _ Vc_10.out).mono ?_
        intro e w11 hh
        obtain ⟨u, he, hu, b1⟩ := hh
        subst he
        have B11 := Lib.hid (below_size B10.out b1)
        have Rg2_11 := Lib.hid (Rg2_10.out.kept b1)
        have Va_11 := Lib.hid (Va_10.out.below b1)
        have Xb_11 := Lib.hid (Xb_10.out.below b1)
        have Xs_11 := Lib.hid (Xs_10.out.below b1)
        have Rg9_11 := Lib.hid (Rg9_10.out.kept b1)
        have Vb_11 := Lib.hid (Vb_10.out.below b1)
        have Rg13_11 := Lib.hid (Rg13_10.out.kept b1)
        have Vc_11 := Lib.hid (Vc_10.out.below b1)
        obtain ⟨bu, su, rfl, ho, hb, hs⟩ := hu
        have O4 := Lib.hid ho
        obtain ⟨Ae, ce, rfl, _⟩ := hb
        obtain ⟨De, de, rfl, _⟩ := hs
        clear ho
        clear b1 B10 Rg2_10 Va_10 Xb_10 Xs_10 Rg9_10 Vb_10 Rg13_10 Vc_10
        go_wp2_with (first
          | ((with_reducible refine wpList_alloc_row (o := ⟨some 15, _, _, _, _, _⟩) rfl 28 rfl (frC zeroFr nilS nilS) Try.zeroOfFr ?_); intro g15 x12 n12; have N12 := Lib.hid n12; clear n12)
          | ((with_reducible refine wpList_store_row (o := ⟨none, _, _, _, _, _⟩) rfl 28 (.tmp 15) (.tmp 61) rfl g15 28 (frC zeroFr nilS nilS) (frC G (.slice Ae G.box.length ce) (.slice De G.sign.length de)) ?h1_12_5 ?h2_12_5 ?h3_12_5 ?h4_12_5 ?h5_12_5 ?h6_12_5 ?h7_12_5); (case h1_12_5 => with_unfolding_all rfl); (case h2_12_5 => with_unfolding_all rfl); (case h3_12_5 => exact N12.out.row); (case h4_12_5 => rw [frC_size zeroFr_ok, frC_size O4.out]); (case h5_12_5 => exact Try.sizeFr O4.out _ _); (case h6_12_5 => exact frC_one _ _ _ rfl rfl); intro w12 p12; have L12 := (laid_put N12.out p12).1; have Rg15_12 := Lib.hid p12.row; have B12 := Lib.hid (below_size B11.out L12); have Rg2_12 := Lib.hid (Rg2_11.out.kept L12); have Va_12 := Lib.hid (Va_11.out.below L12); have Xb_12 := Lib.hid (Xb_11.out.below L12); have Xs_12 := Lib.hid (Xs_11.out.below L12); have Rg9_12 := Lib.hid (Rg9_11.out.kept L12); have Vb_12 := Lib.hid (Vb_11.out.below L12); have Rg13_12 := Lib.hid (Rg13_11.out.kept L12); have Vc_12 := Lib.hid (Vc_11.out.below L12); clear L12 p12 N12 B11 Rg2_11 Va_11 Xb_11 Xs_11 Rg9_11 Vb_11 Rg13_11 Vc_11)
          | (with_reducible refine wpList_load_row (o := ⟨some 63, _, _, _, _, _⟩) rfl 28 (.tmp 2) rfl g2 (by with_unfolding_all rfl) 28 (frC f (.slice A f.box.length c) (.slice B f.sign.length d)) (0, 0) _ (by with_unfolding_all exact Rg2_12.out) Try.underlying28 rfl (Try.sizeFr HO.out _ _) ?_)
          | (with_reducible refine wpList_load_row (o := ⟨some 64, _, _, _, _, _⟩) rfl 28 (.tmp 9) rfl g9 (by with_unfolding_all rfl) 28 (frC f (.slice Ad f.box.length cd) (.slice Dd f.sign.length dd)) (0, 0) _ (by with_unfolding_all exact Rg9_12.out) Try.underlying28 rfl (Try.sizeFr HO.out _ _) ?_))
        refine (C6.out _ _ _ ⟨_, _, rfl, HO.out, Y1.out.below B12.out, Y2.out.below B12.out⟩ ⟨_, _, rfl, HO.out, Xb_12.out, Xs_12.out⟩).mono ?_
        intro e w13 hh
        obtain ⟨he, b1⟩ := hh
        subst he
        have B13 := Lib.hid (below_size B12.out b1)
        have Rg2_13 := Lib.hid (Rg2_12.out.kept b1)
        have Va_13 := Lib.hid (Va_12.out.below b1)
        have Xb_13 := Lib.hid (Xb_12.out.below b1)
        have Xs_13 := Lib.hid (Xs_12.out.below b1)
        have Rg9_13 := Lib.hid (Rg9_12.out.kept b1)
        have Vb_13 := Lib.hid (Vb_12.out.below b1)
        have Rg13_13 := Lib.hid (Rg13_12.out.kept b1)
        have Vc_13 := Lib.hid (Vc_12.out.below b1)
        have Rg15_13 := Lib.hid (Rg15_12.out.kept b1)
        clear b1 B12 Rg2_12 Va_12 Xb_12 Xs_12 Rg9_12 Vb_12 Rg13_12 Vc_12 Rg15_12
        go_wp2_with fail
        refine (C7.out n HN.out _ _ (Va_13.out.fore n (Nat.le_of_lt HN.out))).mono ?_
        intro e w14 hh
        obtain ⟨u, he, hu, b1⟩ := hh
        subst he
        have B14 := Lib.hid (below_size B13.out b1)
        have Rg2_14 := Lib.hid (Rg2_13.out.kept b1)
        have Va_14 := Lib.hid (Va_13.out.below b1)
        have Xb_14 := Lib.hid (Xb_13.out.below b1)
        have Xs_14 := Lib.hid (Xs_13.out.below b1)
        have Rg9_14 := Lib.hid (Rg9_13.out.kept b1)
        have Vb_14 := Lib.hid (Vb_13.out.below b1)
        have Rg13_14 := Lib.hid (Rg13_13.out.kept b1)
        have Vc_14 := Lib.hid (Vc_13.out.below b1)
        have Rg15_14 := Lib.hid (Rg15_13.out.kept b1)
        obtain ⟨bu, su, rfl, ho, hb, hs⟩ := hu
        have O5 := Lib.hid ho
        obtain ⟨Af, cf, rfl, _⟩ := hb
        obtain ⟨Df, df, rfl, _⟩ := hs
        clear ho
        obtain ⟨H, hH⟩ : ∃ H, H = decF (L.take n) := ⟨_, rfl⟩
        rw [← hH] at O5 ⊢
        clear hH
        clear b1 B13 Rg2_13 Va_13 Xb_13 Xs_13 Rg9_13 Vb_13 Rg13_13 Vc_13 Rg15_13
        go_wp2_with (first
          | ((with_reducible refine wpList_alloc_row (o := ⟨some 18, _, _, _, _, _⟩) rfl 28 rfl (frC zeroFr nilS nilS) Try.zeroOfFr ?_); intro g18 x15 n15; have N15 := Lib.hid n15; clear n15)
          | ((with_reducible refine wpList_store_row (o := ⟨none, _, _, _, _, _⟩) rfl 28 (.tmp 18) (.tmp 105) rfl g18 28 (frC zeroFr nilS nilS) (frC H (.slice Af H.box.length cf) (.slice Df H.sign.length df)) ?h1_15_5 ?h2_15_5 ?h3_15_5 ?h4_15_5 ?h5_15_5 ?h6_15_5 ?h7_15_5); (case h1_15_5 => with_unfolding_all rfl); (case h2_15_5 => with_unfolding_all rfl); (case h3_15_5 => exact N15.out.row); (case h4_15_5 => rw [frC_size zeroFr_ok, frC_size O5.out]); (case h5_15_5 => exact Try.sizeFr O5.out _ _); (case h6_15_5 => exact frC_one _ _ _ rfl rfl); intro w15 p15; have L15 := (laid_put N15.out p15).1; have Rg18_15 := Lib.hid p15.row; have B15 := Lib.hid (below_size B14.out L15); have Rg2_15 := Lib.hid (Rg2_14.out.kept L15); have Va_15 := Lib.hid (Va_14.out.below L15); have Xb_15 := Lib.hid (Xb_14.out.below L15); have Xs_15 := Lib.hid (Xs_14.out.below L15); have Rg9_15 := Lib.hid (Rg9_14.out.kept L15); have Vb_15 := Lib.hid (Vb_14.out.below L15); have Rg13_15 := Lib.hid (Rg13_14.out.kept L15); have Vc_15 := Lib.hid (Vc_14.out.below L15); have Rg15_15 := Lib.hid (Rg15_14.out.kept L15); clear L15 p15 N15 B14 Rg2_14 Va_14 Xb_14 Xs_14 Rg9_14 Vb_14 Rg13_14 Vc_14 Rg15_14))
        refine (C8.out _ _ _ Vb_15.out (Va_15.out.fore N.length (Nat.le_of_lt CF2.out))).mono ?_
        intro e w16 hh
        obtain ⟨he, b1⟩ := hh
        subst he
        have B16 := Lib.hid (below_size B15.out b1)
        have Rg2_16 := Lib.hid (Rg2_15.out.kept b1)
        have Va_16 := Lib.hid (Va_15.out.below b1)
        have Xb_16 := Lib.hid (Xb_15.out.below b1)
        have Xs_16 := Lib.hid (Xs_15.out.below b1)
        have Rg9_16 := Lib.hid (Rg9_15.out.kept b1)
        have Vb_16 := Lib.hid (Vb_15.out.below b1)
        have Rg13_16 := Lib.hid (Rg13_15.out.kept b1)
        have Vc_16 := Lib.hid (Vc_15.out.below b1)
        have Rg15_16 := Lib.hid (Rg15_15.out.kept b1)
        have Rg18_16 := Lib.hid (Rg18_15.out.kept b1)
        clear b1 B15 Rg2_15 Va_15 Xb_15 Xs_15 Rg9_15 Vb_15 Rg13_15 Vc_15 Rg15_15 Rg18_15
        go_wp2
        go_ret
        exact ⟨rfl, B16.out⟩
end Go.Proofs.Ytmhhjdiilmgmoaa
end
section
namespace Go.Proofs.Ytmhhjdiilmgmoaa.frameBack
open Go.ChangeShapes Go.WideShapes Go.ChangeAt Go.RowKit
open Go.ChangeMaps (open_string shut_string)
set_option linter.unusedVariables false

theorem own : ownKnob Try.prog.godebug = none := by kernel_rfl
theorem laidOut : laidOutB Try.prog = true := by kernel_rfl

set_option maxRecDepth 100000 in
theorem lifted (os : Os) (started : os.Started) (H : Type) (enc : TypeId × Value → H) :
    ReturnsInHanded {} Try.checked os 5 .any (Rows.frameBackSpec.pre6 enc Try.prog Try.f5 Rows.frameBackRow.domain false) (Rows.frameBackSpec.post enc Try.prog Try.f5 false true false false) := by
  refine returnsInHanded_of_change (C := Try.checked) own started (by kernel_rfl) Try.func5
    (ChangeSpec.witness6 (enc := enc) (C := Try.checked) false ⟨#[], #[.agg (frC zeroFr nilS nilS), .int .i64 0], []⟩ 8 (by kernel_rfl) (by kernel_rfl) (by kernel_rfl) (by kernel_rfl)) ?_
  intro W base args ds gs before hval0 hW hcnd _
  have hval : ∀ (j : Nat) t v, Try.f5.params[j]? = some t → args[j]? = some v → Value.okWide Try.prog W .any base t v := hval0
  have hW' := hW
  obtain ⟨p, q, hA0, hV, rfl, hfz, hnd⟩ := hW
  have hA : DataW.TrodAll enc Try.prog W 0 (fun _ => true) true Try.f5.params.toList args.toList ds p := hA0
  rw [Try.params5] at hA hval
  obtain ⟨v0, vs0, d0, ds0, p0, q0, hargs, rfl, rfl, h0, r0⟩ := trodAll_cons hA
  obtain ⟨v1, vs1, d1, ds1, p1, q1, rfl, rfl, rfl, h1, r1⟩ := trodAll_cons r0
  obtain ⟨rfl, rfl, rfl⟩ := trodAll_nil r1
  obtain rfl : args = #[v0, v1] := by cases args; simp_all
  obtain ⟨rfl, rfl⟩ := trodVars_none hV
  have k0 := h0
  have lt0 : ∀ x ∈ p0, x.block < W.heap.size := by obtain ⟨m, hm⟩ := k0; exact DataW.trod_lt m _ _ _ hm
  obtain ⟨l0, w0⟩ := open_fr (hval 0 28 v0 rfl rfl) h0
  obtain ⟨a1, rfl, rfl, rfl, w1⟩ := open_int Try.underlying3 (hval 1 3 v1 rfl rfl) h1
  clear hA0 hval0
  refine (frameBack_walk W v0 l0 w0 a1 (i64_of_wf w1)).mono fun e W' ⟨he, bel⟩ => ?_
  subst he
  exact ⟨_, rfl, _, _, _, [], _, [], hW', trodAll_mk1 (shut_bool Try.underlying4 _), (trodAll_cons_mk (Below.trod laidOut (by kernel_rfl) (of_decide_eq_true (by kernel_rfl)) k0 bel lt0) (trodAll_cons_mk (shut_int Try.underlying3 w1) trodAll_mk0)), rfl, bel.frame _, fun h => by cases h⟩

theorem over : Rows.frameBackRow.holds Try.pinned (OpenSpec.ofChange Rows.frameBackSpec) :=
  OpenClaim.holds_of_wide 5 Try.f5 rfl rfl rfl rfl rfl rfl rfl ⟨rfl, rfl, rfl, rfl, rfl⟩ rfl rfl rfl rfl rfl (by kernel_rfl) Try.func5 (by kernel_rfl)
    (of_decide_eq_true (by kernel_rfl)) (by unfold Func.isWrapper; first | (rw [if_pos (by decide +kernel)]; kernel_rfl) | (rw [if_neg (by decide +kernel)]; exact ⟨rfl, rfl⟩))
    (fun os started H enc _ => lifted os started H enc)

theorem proved : Rows.FrameBackSaid := over
#print axioms proved
end Go.Proofs.Ytmhhjdiilmgmoaa.frameBack
end
