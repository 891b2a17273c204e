/-
  FrameUnlike: for every input the call returns true, and each argument reads as it read before. Conditions: none beyond the given statement's own.
-/
import Derived.Test.YtmhhjdiilmgmoaaQFrmAN
import Derived.Test.YtmhhjdiilmgmoaaRows
import Derived.OpenShut
import Derived.ShutString
import Derived.ChangeOld
section
namespace Go.Proofs.Ytmhhjdiilmgmoaa
open Go.RowKit
set_option linter.unusedVariables false
set_option maxRecDepth 20000

/-- Bytes of two frames are one just if the frames are. -/
theorem enc_same {f g : Fr} (hf : checkE f = 0) (hg : checkE g = 0) (gf : f.Good) (gg : g.Good) : (encO f == encO g) = sameF f g := by
  unfold encO
  rw [if_pos hf, if_pos hg, Bool.eq_iff_iff, beq_iff_eq, sameF_iff]
  exact ⟨encB_inj hf hg gf gg, fun h => by rw [h]⟩
theorem core_same {f g : Fr} (hf : checkE f = 0) (hg : checkE g = 0) (gf : f.Good) (gg : g.Good) : (coreO f == coreO g) = sameF f { g with sign := f.sign } := by
  unfold coreO
  rw [if_pos (check_zero hf).1, if_pos (check_zero hg).1, Bool.eq_iff_iff, beq_iff_eq, sameF_iff]
  exact ⟨coreB_inj hf hg gf gg, fun h => by rw [h]; rfl⟩
set_option maxHeartbeats 8000000 in
theorem frameUnlike_walk (w : World) (v0 : Value) (f : Fr) (h : FrV w v0 f ∧ f.Ok ∧ ∀ l ∈ f.sign, l.length = 32) (v1 : Value) (g : Fr) (k : FrV w v1 g ∧ g.Ok ∧ ∀ l ∈ g.sign, l.length = 32) :
    Calls Try.prog 7 #[v0, v1] w (RetV w (.bool true)) := by
  obtain ⟨⟨bv, sv, rfl, ho, h1, h2⟩, _, s1⟩ := h
  obtain ⟨⟨bv2, sv2, rfl, hp, k1, k2⟩, _, s2⟩ := k
  have HO := Lib.hid ho
  have HP := Lib.hid hp
  have GF : Hid f.Good := ⟨ho, s1⟩
  have GG : Hid g.Good := ⟨hp, s2⟩
  have HX : Hid (Fr.Ok { g with sign := f.sign }) := ⟨hp.n, hp.ack, hp.eph, hp.epoch, hp.next⟩
  have Y1 := Lib.hid h1
  have Y2 := Lib.hid h2
  have Z1 := Lib.hid k1
  have Z2 := Lib.hid k2
  have CA := Lib.hid (fun w => awake_true w)
  obtain ⟨q, hq⟩ : ∃ q, q = shortF f := ⟨_, rfl⟩
  obtain ⟨r, hr⟩ : ∃ r, r = shortF g := ⟨_, rfl⟩
  have HQ : Hid (q = true → f.sign.length ≤ 1000) := fun e => by
    rw [hq] at e
    simp [shortF] at e
    omega
  have C0 : Hid (∀ w v, FrV w v f → Calls Try.prog 10 #[v] w fun e w' => e = .returned (.bool q) ∧ Below w.heap.size w w') := fun w v h => by rw [hq]; exact short_any w v f h
  have D0 : Hid (∀ w v, FrV w v g → Calls Try.prog 10 #[v] w fun e w' => e = .returned (.bool r) ∧ Below w.heap.size w w') := fun w v h => by rw [hr]; exact short_any w v g h
  have C1 : Hid (∀ w v, FrV w v f → Calls Try.prog 14 #[v] w fun e w' => ∃ u, e = .returned (.tuple #[u, .int .i64 (checkE f)]) ∧ Bs w' u (encO f) ∧ U8At w' u ∧ Below w.heap.size w w') := fun w v h => (encode_own w v f h)
  have D1 : Hid (∀ w v, FrV w v g → Calls Try.prog 14 #[v] w fun e w' => ∃ u, e = .returned (.tuple #[u, .int .i64 (checkE g)]) ∧ Bs w' u (encO g) ∧ U8At w' u ∧ Below w.heap.size w w') := fun w v h => (encode_own w v g h)
  have C2 : Hid (∀ w v, FrV w v f → Calls Try.prog 12 #[v] w fun e w' => ∃ u, e = .returned (.tuple #[u, .int .i64 (shapeE f)]) ∧ Bs w' u (coreO f) ∧ U8At w' u ∧ Below w.heap.size w w') := fun w v h => (core_own w v f h)
  have D2 : Hid (∀ w v, FrV w v g → Calls Try.prog 12 #[v] w fun e w' => ∃ u, e = .returned (.tuple #[u, .int .i64 (shapeE g)]) ∧ Bs w' u (coreO g) ∧ U8At w' u ∧ Below w.heap.size w w') := fun w v h => (core_own w v g h)
  have C3 : Hid (f.sign.length ≤ 1000 → ∀ w a c, FrV w a f → FrV w c g → Calls Try.prog 22 #[a, c] w fun e w' => e = .returned (.bool (sameF f g)) ∧ Below w.heap.size w w') := fun hl w a c h1 h2 => refSame_any w a c f g h1 h2 hl
  have D3 : Hid (f.sign.length ≤ 1000 → ∀ w a c, FrV w a f → FrV w c { g with sign := f.sign } → Calls Try.prog 22 #[a, c] w fun e w' => e = .returned (.bool (sameF f { g with sign := f.sign })) ∧ Below w.heap.size w w') := fun hl w a c h1 h2 => refSame_any w a c f _ h1 h2 hl
  have C4 : Hid (checkE f = 0 → checkE g = 0 → ∀ w a b, Bs w a (encO f) → Bs w b (encO g) → Calls Try.prog 17 #[a, b] w (RetV w (.bool (sameF f g)))) := fun e1 e2 w a b h1 h2 => by rw [← enc_same e1 e2 GF.out GG.out]; exact same_ret w a b _ _ h1 h2
  have D4 : Hid (checkE f = 0 → checkE g = 0 → ∀ w a b, Bs w a (coreO f) → Bs w b (coreO g) → Calls Try.prog 17 #[a, b] w (RetV w (.bool (sameF f { g with sign := f.sign })))) := fun e1 e2 w a b h1 h2 => by rw [← core_same e1 e2 GF.out GG.out]; exact same_ret w a b _ _ h1 h2
  obtain ⟨E, hE⟩ : ∃ E, E = checkE f := ⟨_, rfl⟩
  obtain ⟨G, hG⟩ : ∃ G, G = checkE g := ⟨_, rfl⟩
  obtain ⟨S, hS⟩ : ∃ S, S = shapeE f := ⟨_, rfl⟩
  obtain ⟨T, hT⟩ : ∃ T, T = shapeE g := ⟨_, rfl⟩
  obtain ⟨L, hL⟩ : ∃ L, L = encO f := ⟨_, rfl⟩
  obtain ⟨M, hM⟩ : ∃ M, M = encO g := ⟨_, rfl⟩
  obtain ⟨N, hN⟩ : ∃ N, N = coreO f := ⟨_, rfl⟩
  obtain ⟨O, hOO⟩ : ∃ O, O = coreO g := ⟨_, rfl⟩
  obtain ⟨x, hx⟩ : ∃ x, x = sameF f g := ⟨_, rfl⟩
  obtain ⟨y, hy⟩ : ∃ y, y = sameF f { g with sign := f.sign } := ⟨_, rfl⟩
  rw [← hE, ← hL] at C1
  rw [← hG, ← hM] at D1
  rw [← hS, ← hN] at C2
  rw [← hT, ← hOO] at D2
  rw [← hx] at C3
  rw [← hy] at D3
  rw [← hE, ← hG, ← hL, ← hM, ← hx] at C4
  rw [← hE, ← hG, ← hN, ← hOO, ← hy] at D4
  clear hE hG hS hT hL hM hN hOO hx hy hq hr ho hp s1 s2
  obtain ⟨A, c, rfl, _⟩ := h1
  obtain ⟨B, d, rfl, _⟩ := h2
  obtain ⟨A2, c2, rfl, _⟩ := k1
  obtain ⟨B2, d2, rfl, _⟩ := k2
  cases q with
  | false =>
    cases r with
    | false =>
      go_enter Try.func7, Try.ntmps7
      go_wp2_with (first
        | ((with_reducible refine wpList_box_row (o := ⟨some 2, _, _, _, _, _⟩) rfl 28 (.tmp 0) rfl (frC f (.slice A f.box.length c) (.slice B f.sign.length d)) (by with_unfolding_all rfl) ?_); intro g2 w1 n1; have Rg2_1 := Lib.hid n1.row; have B1 := Lib.hid (n1.below); clear n1)
        | ((with_reducible refine wpList_box_row (o := ⟨some 3, _, _, _, _, _⟩) rfl 28 (.tmp 1) rfl (frC g (.slice A2 g.box.length c2) (.slice B2 g.sign.length d2)) (by with_unfolding_all rfl) ?_); intro g3 w2 n2; have Rg3_2 := Lib.hid n2.row; have B2 := Lib.hid (below_size B1.out n2.below); have Rg2_2 := Lib.hid (Rg2_1.out.kept n2.below); clear n2 B1 Rg2_1))
      refine (CA.out _).mono ?_
      intro e w3 hh
      obtain ⟨he, b1⟩ := hh
      subst he
      have B3 := Lib.hid (below_size B2.out b1)
      have Rg2_3 := Lib.hid (Rg2_2.out.kept b1)
      have Rg3_3 := Lib.hid (Rg3_2.out.kept b1)
      clear b1 B2 Rg2_2 Rg3_2
      go_wp2_with (first
        | (with_reducible refine wpList_load_row (o := ⟨some 19, _, _, _, _, _⟩) rfl 28 (.tmp 2) rfl g2 (by with_unfolding_all rfl) 28 (frC f (.slice A f.box.length c) (.slice B f.sign.length d)) (0, 0) _ (by with_unfolding_all exact Rg2_3.out) Try.underlying28 rfl (Try.sizeFr HO.out _ _) ?_))
      refine (C0.out _ _ ⟨_, _, rfl, HO.out, Y1.out.below B3.out, Y2.out.below B3.out⟩).mono ?_
      intro e w4 hh
      obtain ⟨he, b1⟩ := hh
      subst he
      have B4 := Lib.hid (below_size B3.out b1)
      have Rg2_4 := Lib.hid (Rg2_3.out.kept b1)
      have Rg3_4 := Lib.hid (Rg3_3.out.kept b1)
      clear b1 B3 Rg2_3 Rg3_3
      go_wp2_with (first
        | (with_reducible refine wpList_load_row (o := ⟨some 21, _, _, _, _, _⟩) rfl 28 (.tmp 3) rfl g3 (by with_unfolding_all rfl) 28 (frC g (.slice A2 g.box.length c2) (.slice B2 g.sign.length d2)) (0, 0) _ (by with_unfolding_all exact Rg3_4.out) Try.underlying28 rfl (Try.sizeFr HP.out _ _) ?_))
      refine (D0.out _ _ ⟨_, _, rfl, HP.out, Z1.out.below B4.out, Z2.out.below B4.out⟩).mono ?_
      intro e w5 hh
      obtain ⟨he, b1⟩ := hh
      subst he
      have B5 := Lib.hid (below_size B4.out b1)
      have Rg2_5 := Lib.hid (Rg2_4.out.kept b1)
      have Rg3_5 := Lib.hid (Rg3_4.out.kept b1)
      clear b1 B4 Rg2_4 Rg3_4
      go_wp2
      go_ret
      exact ⟨rfl, B5.out⟩
    | true =>
      go_enter Try.func7, Try.ntmps7
      go_wp2_with (first
        | ((with_reducible refine wpList_box_row (o := ⟨some 2, _, _, _, _, _⟩) rfl 28 (.tmp 0) rfl (frC f (.slice A f.box.length c) (.slice B f.sign.length d)) (by with_unfolding_all rfl) ?_); intro g2 w1 n1; have Rg2_1 := Lib.hid n1.row; have B1 := Lib.hid (n1.below); clear n1)
        | ((with_reducible refine wpList_box_row (o := ⟨some 3, _, _, _, _, _⟩) rfl 28 (.tmp 1) rfl (frC g (.slice A2 g.box.length c2) (.slice B2 g.sign.length d2)) (by with_unfolding_all rfl) ?_); intro g3 w2 n2; have Rg3_2 := Lib.hid n2.row; have B2 := Lib.hid (below_size B1.out n2.below); have Rg2_2 := Lib.hid (Rg2_1.out.kept n2.below); clear n2 B1 Rg2_1))
      refine (CA.out _).mono ?_
      intro e w3 hh
      obtain ⟨he, b1⟩ := hh
      subst he
      have B3 := Lib.hid (below_size B2.out b1)
      have Rg2_3 := Lib.hid (Rg2_2.out.kept b1)
      have Rg3_3 := Lib.hid (Rg3_2.out.kept b1)
      clear b1 B2 Rg2_2 Rg3_2
      go_wp2_with (first
        | (with_reducible refine wpList_load_row (o := ⟨some 19, _, _, _, _, _⟩) rfl 28 (.tmp 2) rfl g2 (by with_unfolding_all rfl) 28 (frC f (.slice A f.box.length c) (.slice B f.sign.length d)) (0, 0) _ (by with_unfolding_all exact Rg2_3.out) Try.underlying28 rfl (Try.sizeFr HO.out _ _) ?_))
      refine (C0.out _ _ ⟨_, _, rfl, HO.out, Y1.out.below B3.out, Y2.out.below B3.out⟩).mono ?_
      intro e w4 hh
      obtain ⟨he, b1⟩ := hh
      subst he
      have B4 := Lib.hid (below_size B3.out b1)
      have Rg2_4 := Lib.hid (Rg2_3.out.kept b1)
      have Rg3_4 := Lib.hid (Rg3_3.out.kept b1)
      clear b1 B3 Rg2_3 Rg3_3
      go_wp2_with (first
        | (with_reducible refine wpList_load_row (o := ⟨some 21, _, _, _, _, _⟩) rfl 28 (.tmp 3) rfl g3 (by with_unfolding_all rfl) 28 (frC g (.slice A2 g.box.length c2) (.slice B2 g.sign.length d2)) (0, 0) _ (by with_unfolding_all exact Rg3_4.out) Try.underlying28 rfl (Try.sizeFr HP.out _ _) ?_))
      refine (D0.out _ _ ⟨_, _, rfl, HP.out, Z1.out.below B4.out, Z2.out.below B4.out⟩).mono ?_
      intro e w5 hh
      obtain ⟨he, b1⟩ := hh
      subst he
      have B5 := Lib.hid (below_size B4.out b1)
      have Rg2_5 := Lib.hid (Rg2_4.out.kept b1)
      have Rg3_5 := Lib.hid (Rg3_4.out.kept b1)
      clear b1 B4 Rg2_4 Rg3_4
      go_wp2
      go_ret
      exact ⟨rfl, B5.out⟩
  | true =>
    cases r with
    | false =>
      go_enter Try.func7, Try.ntmps7
      go_wp2_with (first
        | ((with_reducible refine wpList_box_row (o := ⟨some 2, _, _, _, _, _⟩) rfl 28 (.tmp 0) rfl (frC f (.slice A f.box.length c) (.slice B f.sign.length d)) (by with_unfolding_all rfl) ?_); intro g2 w1 n1; have Rg2_1 := Lib.hid n1.row; have B1 := Lib.hid (n1.below); clear n1)
        | ((with_reducible refine wpList_box_row (o := ⟨some 3, _, _, _, _, _⟩) rfl 28 (.tmp 1) rfl (frC g (.slice A2 g.box.length c2) (.slice B2 g.sign.length d2)) (by with_unfolding_all rfl) ?_); intro g3 w2 n2; have Rg3_2 := Lib.hid n2.row; have B2 := Lib.hid (below_size B1.out n2.below); have Rg2_2 := Lib.hid (Rg2_1.out.kept n2.below); clear n2 B1 Rg2_1))
      refine (CA.out _).mono ?_
      intro e w3 hh
      obtain ⟨he, b1⟩ := hh
      subst he
      have B3 := Lib.hid (below_size B2.out b1)
      have Rg2_3 := Lib.hid (Rg2_2.out.kept b1)
      have Rg3_3 := Lib.hid (Rg3_2.out.kept b1)
      clear b1 B2 Rg2_2 Rg3_2
      go_wp2_with (first
        | (with_reducible refine wpList_load_row (o := ⟨some 19, _, _, _, _, _⟩) rfl 28 (.tmp 2) rfl g2 (by with_unfolding_all rfl) 28 (frC f (.slice A f.box.length c) (.slice B f.sign.length d)) (0, 0) _ (by with_unfolding_all exact Rg2_3.out) Try.underlying28 rfl (Try.sizeFr HO.out _ _) ?_))
      refine (C0.out _ _ ⟨_, _, rfl, HO.out, Y1.out.below B3.out, Y2.out.below B3.out⟩).mono ?_
      intro e w4 hh
      obtain ⟨he, b1⟩ := hh
      subst he
      have B4 := Lib.hid (below_size B3.out b1)
      have Rg2_4 := Lib.hid (Rg2_3.out.kept b1)
      have Rg3_4 := Lib.hid (Rg3_3.out.kept b1)
      clear b1 B3 Rg2_3 Rg3_3
      go_wp2_with (first
        | (with_reducible refine wpList_load_row (o := ⟨some 21, _, _, _, _, _⟩) rfl 28 (.tmp 3) rfl g3 (by with_unfolding_all rfl) 28 (frC g (.slice A2 g.box.length c2) (.slice B2 g.sign.length d2)) (0, 0) _ (by with_unfolding_all exact Rg3_4.out) Try.underlying28 rfl (Try.sizeFr HP.out _ _) ?_))
      refine (D0.out _ _ ⟨_, _, rfl, HP.out, Z1.out.below B4.out, Z2.out.below B4.out⟩).mono ?_
      intro e w5 hh
      obtain ⟨he, b1⟩ := hh
      subst he
      have B5 := Lib.hid (below_size B4.out b1)
      have Rg2_5 := Lib.hid (Rg2_4.out.kept b1)
      have Rg3_5 := Lib.hid (Rg3_4.out.kept b1)
      clear b1 B4 Rg2_4 Rg3_4
      go_wp2
      go_ret
      exact ⟨rfl, B5.out⟩
    | true =>
      have HLL : Hid (f.sign.length ≤ 1000) := HQ.out rfl
      by_cases a0 : E = 0
      · have hE0 := a0
        have e0 : (E != 0) = false := by simp [a0]
        by_cases a1 : G = 0
        · have hG0 := a1
          have e1 : (G != 0) = false := by simp [a1]
          clear a0 a1
          have HE0 := Lib.hid hE0
          have HG0 := Lib.hid hG0
          clear hE0 hG0
          go_enter Try.func7, Try.ntmps7
          go_wp2_with (first
            | ((with_reducible refine wpList_box_row (o := ⟨some 2, _, _, _, _, _⟩) rfl 28 (.tmp 0) rfl (frC f (.slice A f.box.length c) (.slice B f.sign.length d)) (by with_unfolding_all rfl) ?_); intro g2 w1 n1; have Rg2_1 := Lib.hid n1.row; have B1 := Lib.hid (n1.below); clear n1)
            | ((with_reducible refine wpList_box_row (o := ⟨some 3, _, _, _, _, _⟩) rfl 28 (.tmp 1) rfl (frC g (.slice A2 g.box.length c2) (.slice B2 g.sign.length d2)) (by with_unfolding_all rfl) ?_); intro g3 w2 n2; have Rg3_2 := Lib.hid n2.row; have NE0 : g2 ≠ g3 ∧ w.heap.size ≤ g3 := (by have s1 := n2.spot; have s2 := Rg2_1.out.lt; have s3 := B1.out.size; omega); have B2 := Lib.hid (below_size B1.out n2.below); have Rg2_2 := Lib.hid (Rg2_1.out.kept n2.below); clear n2 B1 Rg2_1))
          have NE := Lib.hid NE0
          clear NE0
          refine (CA.out _).mono ?_
          intro e w3 hh
          obtain ⟨he, b1⟩ := hh
          subst he
          have B3 := Lib.hid (below_size B2.out b1)
          have Rg2_3 := Lib.hid (Rg2_2.out.kept b1)
          have Rg3_3 := Lib.hid (Rg3_2.out.kept b1)
          clear b1 B2 Rg2_2 Rg3_2
          go_wp2_with (first
            | (with_reducible refine wpList_load_row (o := ⟨some 19, _, _, _, _, _⟩) rfl 28 (.tmp 2) rfl g2 (by with_unfolding_all rfl) 28 (frC f (.slice A f.box.length c) (.slice B f.sign.length d)) (0, 0) _ (by with_unfolding_all exact Rg2_3.out) Try.underlying28 rfl (Try.sizeFr HO.out _ _) ?_))
          refine (C0.out _ _ ⟨_, _, rfl, HO.out, Y1.out.below B3.out, Y2.out.below B3.out⟩).mono ?_
          intro e w4 hh
          obtain ⟨he, b1⟩ := hh
          subst he
          have B4 := Lib.hid (below_size B3.out b1)
          have Rg2_4 := Lib.hid (Rg2_3.out.kept b1)
          have Rg3_4 := Lib.hid (Rg3_3.out.kept b1)
          clear b1 B3 Rg2_3 Rg3_3
          go_wp2_with (first
            | (with_reducible refine wpList_load_row (o := ⟨some 21, _, _, _, _, _⟩) rfl 28 (.tmp 3) rfl g3 (by with_unfolding_all rfl) 28 (frC g (.slice A2 g.box.length c2) (.slice B2 g.sign.length d2)) (0, 0) _ (by with_unfolding_all exact Rg3_4.out) Try.underlying28 rfl (Try.sizeFr HP.out _ _) ?_))
          refine (D0.out _ _ ⟨_, _, rfl, HP.out, Z1.out.below B4.out, Z2.out.below B4.out⟩).mono ?_
          intro e w5 hh
          obtain ⟨he, b1⟩ := hh
          subst he
          have B5 := Lib.hid (below_size B4.out b1)
          have Rg2_5 := Lib.hid (Rg2_4.out.kept b1)
          have Rg3_5 := Lib.hid (Rg3_4.out.kept b1)
          clear b1 B4 Rg2_4 Rg3_4
          go_wp2_with (first
            | (with_reducible refine wpList_load_row (o := ⟨some 31, _, _, _, _, _⟩) rfl 28 (.tmp 2) rfl g2 (by with_unfolding_all rfl) 28 (frC f (.slice A f.box.length c) (.slice B f.sign.length d)) (0, 0) _ (by with_unfolding_all exact Rg2_5.out) Try.underlying28 rfl (Try.sizeFr HO.out _ _) ?_))
          refine (C1.out _ _ ⟨_, _, rfl, HO.out, Y1.out.below B5.out, Y2.out.below B5.out⟩).mono ?_
          intro e w6 hh
          obtain ⟨u, he, hu, h8, b1⟩ := hh
          subst he
          have B6 := Lib.hid (below_size B5.out b1)
          have Rg2_6 := Lib.hid (Rg2_5.out.kept b1)
          have Rg3_6 := Lib.hid (Rg3_5.out.kept b1)
          have Va_6 := Lib.hid hu
          have UVa_6 := Lib.hid h8
          clear h8
          obtain ⟨aVa, nVa, rfl, _⟩ := hu
          clear b1 B5 Rg2_5 Rg3_5
          go_wp2_with (first
            | (with_reducible refine wpList_load_row (o := ⟨some 36, _, _, _, _, _⟩) rfl 28 (.tmp 3) rfl g3 (by with_unfolding_all rfl) 28 (frC g (.slice A2 g.box.length c2) (.slice B2 g.sign.length d2)) (0, 0) _ (by with_unfolding_all exact Rg3_6.out) Try.underlying28 rfl (Try.sizeFr HP.out _ _) ?_))
          refine (D1.out _ _ ⟨_, _, rfl, HP.out, Z1.out.below B6.out, Z2.out.below B6.out⟩).mono ?_
          intro e w7 hh
          obtain ⟨u, he, hu, h8, b1⟩ := hh
          subst he
          have B7 := Lib.hid (below_size B6.out b1)
          have Rg2_7 := Lib.hid (Rg2_6.out.kept b1)
          have Rg3_7 := Lib.hid (Rg3_6.out.kept b1)
          have Va_7 := Lib.hid (Va_6.out.below b1)
          have UVa_7 := Lib.hid (UVa_6.out.below b1)
          have Vb_7 := Lib.hid hu
          have UVb_7 := Lib.hid h8
          clear h8
          obtain ⟨aVb, nVb, rfl, _⟩ := hu
          clear b1 B6 Rg2_6 Rg3_6 Va_6 UVa_6
          go_wp2_with (first
            | (with_reducible refine wpList_load_row (o := ⟨some 41, _, _, _, _, _⟩) rfl 28 (.tmp 2) rfl g2 (by with_unfolding_all rfl) 28 (frC f (.slice A f.box.length c) (.slice B f.sign.length d)) (0, 0) _ (by with_unfolding_all exact Rg2_7.out) Try.underlying28 rfl (Try.sizeFr HO.out _ _) ?_))
          refine (C2.out _ _ ⟨_, _, rfl, HO.out, Y1.out.below B7.out, Y2.out.below B7.out⟩).mono ?_
          intro e w8 hh
          obtain ⟨u, he, hu, h8, b1⟩ := hh
          subst he
          have B8 := Lib.hid (below_size B7.out b1)
          have Rg2_8 := Lib.hid (Rg2_7.out.kept b1)
          have Rg3_8 := Lib.hid (Rg3_7.out.kept b1)
          have Va_8 := Lib.hid (Va_7.out.below b1)
          have UVa_8 := Lib.hid (UVa_7.out.below b1)
          have Vb_8 := Lib.hid (Vb_7.out.below b1)
          have UVb_8 := Lib.hid (UVb_7.out.below b1)
          have Vc_8 := Lib.hid hu
          have UVc_8 := Lib.hid h8
          clear h8
          obtain ⟨aVc, nVc, rfl, _⟩ := hu
          clear b1 B7 Rg2_7 Rg3_7 Va_7 UVa_7 Vb_7 UVb_7
          go_wp2_with (first
            | (with_reducible refine wpList_load_row (o := ⟨some 46, _, _, _, _, _⟩) rfl 28 (.tmp 3) rfl g3 (by with_unfolding_all rfl) 28 (frC g (.slice A2 g.box.length c2) (.slice B2 g.sign.length d2)) (0, 0) _ (by with_unfolding_all exact Rg3_8.out) Try.underlying28 rfl (Try.sizeFr HP.out _ _) ?_))
          refine (D2.out _ _ ⟨_, _, rfl, HP.out, Z1.out.below B8.out, Z2.out.below B8.out⟩).mono ?_
          intro e w9 hh
          obtain ⟨u, he, hu, h8, b1⟩ := hh
          subst he
          have B9 := Lib.hid (below_size B8.out b1)
          have Rg2_9 := Lib.hid (Rg2_8.out.kept b1)
          have Rg3_9 := Lib.hid (Rg3_8.out.kept b1)
          have Va_9 := Lib.hid (Va_8.out.below b1)
          have UVa_9 := Lib.hid (UVa_8.out.below b1)
          have Vb_9 := Lib.hid (Vb_8.out.below b1)
          have UVb_9 := Lib.hid (UVb_8.out.below b1)
          have Vc_9 := Lib.hid (Vc_8.out.below b1)
          have UVc_9 := Lib.hid (UVc_8.out.below b1)
          have Vd_9 := Lib.hid hu
          have UVd_9 := Lib.hid h8
          clear h8
          obtain ⟨aVd, nVd, rfl, _⟩ := hu
          clear b1 B8 Rg2_8 Rg3_8 Va_8 UVa_8 Vb_8 UVb_8 Vc_8 UVc_8
          go_wp2_with (first
            | (with_reducible refine wpList_load_row (o := ⟨some 57, _, _, _, _, _⟩) rfl 28 (.tmp 2) rfl g2 (by with_unfolding_all rfl) 28 (frC f (.slice A f.box.length c) (.slice B f.sign.length d)) (0, 0) _ (by with_unfolding_all exact Rg2_9.out) Try.underlying28 rfl (Try.sizeFr HO.out _ _) ?_)
            | (with_reducible refine wpList_load_row (o := ⟨some 58, _, _, _, _, _⟩) rfl 28 (.tmp 3) rfl g3 (by with_unfolding_all rfl) 28 (frC g (.slice A2 g.box.length c2) (.slice B2 g.sign.length d2)) (0, 0) _ (by with_unfolding_all exact Rg3_9.out) Try.underlying28 rfl (Try.sizeFr HP.out _ _) ?_))
          refine (C3.out HLL.out _ _ _ ⟨_, _, rfl, HO.out, Y1.out.below B9.out, Y2.out.below B9.out⟩ ⟨_, _, rfl, HP.out, Z1.out.below B9.out, Z2.out.below B9.out⟩).mono ?_
          intro e w10 hh
          obtain ⟨he, b1⟩ := hh
          subst he
          have B10 := Lib.hid (below_size B9.out b1)
          have Rg2_10 := Lib.hid (Rg2_9.out.kept b1)
          have Rg3_10 := Lib.hid (Rg3_9.out.kept b1)
          have Va_10 := Lib.hid (Va_9.out.below b1)
          have UVa_10 := Lib.hid (UVa_9.out.below b1)
          have Vb_10 := Lib.hid (Vb_9.out.below b1)
          have UVb_10 := Lib.hid (UVb_9.out.below b1)
          have Vc_10 := Lib.hid (Vc_9.out.below b1)
          have UVc_10 := Lib.hid (UVc_9.out.below b1)
          have Vd_10 := Lib.hid (Vd_9.out.below b1)
          have UVd_10 := Lib.hid (UVd_9.out.below b1)
          clear b1 B9 Rg2_9 Rg3_9 Va_9 UVa_9 Vb_9 UVb_9 Vc_9 UVc_9 Vd_9 UVd_9
          have cf3 := FrAt.sign (f := f) Rg2_10.out HO.out
          have cg3 := FrAt.sign (f := g) Rg3_10.out HP.out
          have zg3 := Rg3_10.out.frozen 99
          have GR := Lib.hid (grown_setCell w10 g3 99 (.slice B f.sign.length d))
          have T3 : Hid (RowAt (w10.setCell ⟨g3, 99, none⟩ (.slice B f.sign.length d)) g3 28 (frC { g with sign := f.sign } (.slice A2 g.box.length c2) (.slice B f.sign.length d))) := by
            have := Rg3_10.out.put 99 (.slice B f.sign.length d)
            rwa [frC_sign HP.out _ _ _ f.sign] at this
          have T2 : Hid (RowAt (w10.setCell ⟨g3, 99, none⟩ (.slice B f.sign.length d)) g2 28 (frC f (.slice A f.box.length c) (.slice B f.sign.length d))) := Rg2_10.out.grown GR.out (by intro e; injection e with e; exact NE.out.1 e)
          have BX : Hid (Below w.heap.size w (w10.setCell ⟨g3, 99, none⟩ (.slice B f.sign.length d))) := B10.out.grown GR.out B10.out.size (fun k e => by injection e with e; have := NE.out.2; omega)
          have XVa := Lib.hid (Va_10.out.farOf (UVa_10.out.apart Rg3_10.out (by decide)) GR.out)
          have XVb := Lib.hid (Vb_10.out.farOf (UVb_10.out.apart Rg3_10.out (by decide)) GR.out)
          have XVc := Lib.hid (Vc_10.out.farOf (UVc_10.out.apart Rg3_10.out (by decide)) GR.out)
          have XVd := Lib.hid (Vd_10.out.farOf (UVd_10.out.apart Rg3_10.out (by decide)) GR.out)
          go_wp2_with (first
            | (with_reducible refine wpList_load_row (o := ⟨some 63, _, _, _, _, _⟩) rfl 28 (.tmp 2) rfl g2 (by with_unfolding_all rfl) 28 (frC f (.slice A f.box.length c) (.slice B f.sign.length d)) (0, 0) _ (by with_unfolding_all exact T2.out) Try.underlying28 rfl (Try.sizeFr HO.out _ _) ?_)
            | (with_reducible refine wpList_load_row (o := ⟨some 64, _, _, _, _, _⟩) rfl 28 (.tmp 3) rfl g3 (by with_unfolding_all rfl) 28 (frC { g with sign := f.sign } (.slice A2 g.box.length c2) (.slice B f.sign.length d)) (0, 0) _ (by with_unfolding_all exact T3.out) Try.underlying28 rfl (Try.sizeFr HX.out _ _) ?_))
          refine (D3.out HLL.out _ _ _ ⟨_, _, rfl, HO.out, Y1.out.below BX.out, Y2.out.below BX.out⟩ ⟨_, _, rfl, HX.out, Z1.out.below BX.out, Y2.out.below BX.out⟩).mono ?_
          intro e w11 hh
          obtain ⟨he, b1⟩ := hh
          subst he
          have B11 := Lib.hid (below_size BX.out b1)
          have Va_11 := Lib.hid (XVa.out.below b1)
          have Vb_11 := Lib.hid (XVb.out.below b1)
          have Vc_11 := Lib.hid (XVc.out.below b1)
          have Vd_11 := Lib.hid (XVd.out.below b1)
          clear b1
          go_wp2_with fail
          refine (C4.out HE0.out HG0.out _ _ _ Va_11.out Vb_11.out).mono ?_
          intro e w12 hh
          obtain ⟨he, b1⟩ := hh
          subst he
          have B12 := Lib.hid (below_size B11.out b1)
          have Va_12 := Lib.hid (Va_11.out.below b1)
          have Vb_12 := Lib.hid (Vb_11.out.below b1)
          have Vc_12 := Lib.hid (Vc_11.out.below b1)
          have Vd_12 := Lib.hid (Vd_11.out.below b1)
          clear b1 B11 Va_11 Vb_11 Vc_11 Vd_11
          go_wp2_with fail
          refine (D4.out HE0.out HG0.out _ _ _ Vc_12.out Vd_12.out).mono ?_
          intro e w13 hh
          obtain ⟨he, b1⟩ := hh
          subst he
          have B13 := Lib.hid (below_size B12.out b1)
          have Va_13 := Lib.hid (Va_12.out.below b1)
          have Vb_13 := Lib.hid (Vb_12.out.below b1)
          have Vc_13 := Lib.hid (Vc_12.out.below b1)
          have Vd_13 := Lib.hid (Vd_12.out.below b1)
          clear b1 B12 Va_12 Vb_12 Vc_12 Vd_12
          go_wp2
          go_ret
          exact ⟨by simp, B13.out⟩
        · have e1 : (G != 0) = true := by simpa using a1
          clear a0 a1 hE0
          go_enter Try.func7, Try.ntmps7
          go_wp2_with (first
            | ((with_reducible refine wpList_box_row (o := ⟨some 2, _, _, _, _, _⟩) rfl 28 (.tmp 0) rfl (frC f (.slice A f.box.length c) (.slice B f.sign.length d)) (by with_unfolding_all rfl) ?_); intro g2 w1 n1; have Rg2_1 := Lib.hid n1.row; have B1 := Lib.hid (n1.below); clear n1)
            | ((with_reducible refine wpList_box_row (o := ⟨some 3, _, _, _, _, _⟩) rfl 28 (.tmp 1) rfl (frC g (.slice A2 g.box.length c2) (.slice B2 g.sign.length d2)) (by with_unfolding_all rfl) ?_); intro g3 w2 n2; have Rg3_2 := Lib.hid n2.row; have B2 := Lib.hid (below_size B1.out n2.below); have Rg2_2 := Lib.hid (Rg2_1.out.kept n2.below); clear n2 B1 Rg2_1))
          refine (CA.out _).mono ?_
          intro e w3 hh
          obtain ⟨he, b1⟩ := hh
          subst he
          have B3 := Lib.hid (below_size B2.out b1)
          have Rg2_3 := Lib.hid (Rg2_2.out.kept b1)
          have Rg3_3 := Lib.hid (Rg3_2.out.kept b1)
          clear b1 B2 Rg2_2 Rg3_2
          go_wp2_with (first
            | (with_reducible refine wpList_load_row (o := ⟨some 19, _, _, _, _, _⟩) rfl 28 (.tmp 2) rfl g2 (by with_unfolding_all rfl) 28 (frC f (.slice A f.box.length c) (.slice B f.sign.length d)) (0, 0) _ (by with_unfolding_all exact Rg2_3.out) Try.underlying28 rfl (Try.sizeFr HO.out _ _) ?_))
          refine (C0.out _ _ ⟨_, _, rfl, HO.out, Y1.out.below B3.out, Y2.out.below B3.out⟩).mono ?_
          intro e w4 hh
          obtain ⟨he, b1⟩ := hh
          subst he
          have B4 := Lib.hid (below_size B3.out b1)
          have Rg2_4 := Lib.hid (Rg2_3.out.kept b1)
          have Rg3_4 := Lib.hid (Rg3_3.out.kept b1)
          clear b1 B3 Rg2_3 Rg3_3
          go_wp2_with (first
            | (with_reducible refine wpList_load_row (o := ⟨some 21, _, _, _, _, _⟩) rfl 28 (.tmp 3) rfl g3 (by with_unfolding_all rfl) 28 (frC g (.slice A2 g.box.length c2) (.slice B2 g.sign.length d2)) (0, 0) _ (by with_unfolding_all exact Rg3_4.out) Try.underlying28 rfl (Try.sizeFr HP.out _ _) ?_))
          refine (D0.out _ _ ⟨_, _, rfl, HP.out, Z1.out.below B4.out, Z2.out.below B4.out⟩).mono ?_
          intro e w5 hh
          obtain ⟨he, b1⟩ := hh
          subst he
          have B5 := Lib.hid (below_size B4.out b1)
          have Rg2_5 := Lib.hid (Rg2_4.out.kept b1)
          have Rg3_5 := Lib.hid (Rg3_4.out.kept b1)
          clear b1 B4 Rg2_4 Rg3_4
          go_wp2_with (first
            | (with_reducible refine wpList_load_row (o := ⟨some 31, _, _, _, _, _⟩) rfl 28 (.tmp 2) rfl g2 (by with_unfolding_all rfl) 28 (frC f (.slice A f.box.length c) (.slice B f.sign.length d)) (0, 0) _ (by with_unfolding_all exact Rg2_5.out) Try.underlying28 rfl (Try.sizeFr HO.out _ _) ?_))
          refine (C1.out _ _ ⟨_, _, rfl, HO.out, Y1.out.below B5.out, Y2.out.below B5.out⟩).mono ?_
          intro e w6 hh
          obtain ⟨u, he, hu, h8, b1⟩ := hh
          subst he
          have B6 := Lib.hid (below_size B5.out b1)
          have Rg2_6 := Lib.hid (Rg2_5.out.kept b1)
          have Rg3_6 := Lib.hid (Rg3_5.out.kept b1)
          have Va_6 := Lib.hid hu
          have UVa_6 := Lib.hid h8
          clear h8
          obtain ⟨aVa, nVa, rfl, _⟩ := hu
          clear b1 B5 Rg2_5 Rg3_5
          go_wp2_with (first
            | (with_reducible refine wpList_load_row (o := ⟨some 36, _, _, _, _, _⟩) rfl 28 (.tmp 3) rfl g3 (by with_unfolding_all rfl) 28 (frC g (.slice A2 g.box.length c2) (.slice B2 g.sign.length d2)) (0, 0) _ (by with_unfolding_all exact Rg3_6.out) Try.underlying28 rfl (Try.sizeFr HP.out _ _) ?_))
          refine (D1.out _ _ ⟨_, _, rfl, HP.out, Z1.out.below B6.out, Z2.out.below B6.out⟩).mono ?_
          intro e w7 hh
          obtain ⟨u, he, hu, h8, b1⟩ := hh
          subst he
          have B7 := Lib.hid (below_size B6.out b1)
          have Rg2_7 := Lib.hid (Rg2_6.out.kept b1)
          have Rg3_7 := Lib.hid (Rg3_6.out.kept b1)
          have Va_7 := Lib.hid (Va_6.out.below b1)
          have UVa_7 := Lib.hid (UVa_6.out.below b1)
          have Vb_7 := Lib.hid hu
          have UVb_7 := Lib.hid h8
          clear h8
          obtain ⟨aVb, nVb, rfl, _⟩ := hu
          clear b1 B6 Rg2_6 Rg3_6 Va_6 UVa_6
          go_wp2_with (first
            | (with_reducible refine wpList_load_row (o := ⟨some 41, _, _, _, _, _⟩) rfl 28 (.tmp 2) rfl g2 (by with_unfolding_all rfl) 28 (frC f (.slice A f.box.length c) (.slice B f.sign.length d)) (0, 0) _ (by with_unfolding_all exact Rg2_7.out) Try.underlying28 rfl (Try.sizeFr HO.out _ _) ?_))
          refine (C2.out _ _ ⟨_, _, rfl, HO.out, Y1.out.below B7.out, Y2.out.below B7.out⟩).mono ?_
          intro e w8 hh
          obtain ⟨u, he, hu, h8, b1⟩ := hh
          subst he
          have B8 := Lib.hid (below_size B7.out b1)
          have Rg2_8 := Lib.hid (Rg2_7.out.kept b1)
          have Rg3_8 := Lib.hid (Rg3_7.out.kept b1)
          have Va_8 := Lib.hid (Va_7.out.below b1)
          have UVa_8 := Lib.hid (UVa_7.out.below b1)
          have Vb_8 := Lib.hid (Vb_7.out.below b1)
          have UVb_8 := Lib.hid (UVb_7.out.below b1)
          have Vc_8 := Lib.hid hu
          have UVc_8 := Lib.hid h8
          clear h8
          obtain ⟨aVc, nVc, rfl, _⟩ := hu
          clear b1 B7 Rg2_7 Rg3_7 Va_7 UVa_7 Vb_7 UVb_7
          go_wp2_with (first
            | (with_reducible refine wpList_load_row (o := ⟨some 46, _, _, _, _, _⟩) rfl 28 (.tmp 3) rfl g3 (by with_unfolding_all rfl) 28 (frC g (.slice A2 g.box.length c2) (.slice B2 g.sign.length d2)) (0, 0) _ (by with_unfolding_all exact Rg3_8.out) Try.underlying28 rfl (Try.sizeFr HP.out _ _) ?_))
          refine (D2.out _ _ ⟨_, _, rfl, HP.out, Z1.out.below B8.out, Z2.out.below B8.out⟩).mono ?_
          intro e w9 hh
          obtain ⟨u, he, hu, h8, b1⟩ := hh
          subst he
          have B9 := Lib.hid (below_size B8.out b1)
          have Rg2_9 := Lib.hid (Rg2_8.out.kept b1)
          have Rg3_9 := Lib.hid (Rg3_8.out.kept b1)
          have Va_9 := Lib.hid (Va_8.out.below b1)
          have UVa_9 := Lib.hid (UVa_8.out.below b1)
          have Vb_9 := Lib.hid (Vb_8.out.below b1)
          have UVb_9 := Lib.hid (UVb_8.out.below b1)
          have Vc_9 := Lib.hid (Vc_8.out.below b1)
          have UVc_9 := Lib.hid (UVc_8.out.below b1)
          have Vd_9 := Lib.hid hu
          have UVd_9 := Lib.hid h8
          clear h8
          obtain ⟨aVd, nVd, rfl, _⟩ := hu
          clear b1 B8 Rg2_8 Rg3_8 Va_8 UVa_8 Vb_8 UVb_8 Vc_8 UVc_8
          go_wp2
          go_ret
          exact ⟨rfl, B9.out⟩
      · have e0 : (E != 0) = true := by simpa using a0
        clear a0
        go_enter Try.func7, Try.ntmps7
        go_wp2_with (first
          | ((with_reducible refine wpList_box_row (o := ⟨some 2, _, _, _, _, _⟩) rfl 28 (.tmp 0) rfl (frC f (.slice A f.box.length c) (.slice B f.sign.length d)) (by with_unfolding_all rfl) ?_); intro g2 w1 n1; have Rg2_1 := Lib.hid n1.row; have B1 := Lib.hid (n1.below); clear n1)
          | ((with_reducible refine wpList_box_row (o := ⟨some 3, _, _, _, _, _⟩) rfl 28 (.tmp 1) rfl (frC g (.slice A2 g.box.length c2) (.slice B2 g.sign.length d2)) (by with_unfolding_all rfl) ?_); intro g3 w2 n2; have Rg3_2 := Lib.hid n2.row; have B2 := Lib.hid (below_size B1.out n2.below); have Rg2_2 := Lib.hid (Rg2_1.out.kept n2.below); clear n2 B1 Rg2_1))
        refine (CA.out _).mono ?_
        intro e w3 hh
        obtain ⟨he, b1⟩ := hh
        subst he
        have B3 := Lib.hid (below_size B2.out b1)
        have Rg2_3 := Lib.hid (Rg2_2.out.kept b1)
        have Rg3_3 := Lib.hid (Rg3_2.out.kept b1)
        clear b1 B2 Rg2_2 Rg3_2
        go_wp2_with (first
          | (with_reducible refine wpList_load_row (o := ⟨some 19, _, _, _, _, _⟩) rfl 28 (.tmp 2) rfl g2 (by with_unfolding_all rfl) 28 (frC f (.slice A f.box.length c) (.slice B f.sign.length d)) (0, 0) _ (by with_unfolding_all exact Rg2_3.out) Try.underlying28 rfl (Try.sizeFr HO.out _ _) ?_))
        refine (C0.out _ _ ⟨_, _, rfl, HO.out, Y1.out.below B3.out, Y2.out.below B3.out⟩).mono ?_
        intro e w4 hh
        obtain ⟨he, b1⟩ := hh
        subst he
        have B4 := Lib.hid (below_size B3.out b1)
        have Rg2_4 := Lib.hid (Rg2_3.out.kept b1)
        have Rg3_4 := Lib.hid (Rg3_3.out.kept b1)
        clear b1 B3 Rg2_3 Rg3_3
        go_wp2_with (first
          | (with_reducible refine wpList_load_row (o := ⟨some 21, _, _, _, _, _⟩) rfl 28 (.tmp 3) rfl g3 (by with_unfolding_all rfl) 28 (frC g (.slice A2 g.box.length c2) (.slice B2 g.sign.length d2)) (0, 0) _ (by with_unfolding_all exact Rg3_4.out) Try.underlying28 rfl (Try.sizeFr HP.out _ _) ?_))
        refine (D0.out _ _ ⟨_, _, rfl, HP.out, Z1.out.below B4.out, Z2.out.below B4.out⟩).mono ?_
        intro e w5 hh
        obtain ⟨he, b1⟩ := hh
        subst he
        have B5 := Lib.hid (below_size B4.out b1)
        have Rg2_5 := Lib.hid (Rg2_4.out.kept b1)
        have Rg3_5 := Lib.hid (Rg3_4.out.kept b1)
        clear b1 B4 Rg2_4 Rg3_4
        go_wp2_with (first
          | (with_reducible refine wpList_load_row (o := ⟨some 31, _, _, _, _, _⟩) rfl 28 (.tmp 2) rfl g2 (by with_unfolding_all rfl) 28 (frC f (.slice A f.box.length c) (.slice B f.sign.length d)) (0, 0) _ (by with_unfolding_all exact Rg2_5.out) Try.underlying28 rfl (Try.sizeFr HO.out _ _) ?_))
        refine (C1.out _ _ ⟨_, _, rfl, HO.out, Y1.out.below B5.out, Y2.out.below B5.out⟩).mono ?_
        intro e w6 hh
        obtain ⟨u, he, hu, h8, b1⟩ := hh
        subst he
        have B6 := Lib.hid (below_size B5.out b1)
        have Rg2_6 := Lib.hid (Rg2_5.out.kept b1)
        have Rg3_6 := Lib.hid (Rg3_5.out.kept b1)
        have Va_6 := Lib.hid hu
        have UVa_6 := Lib.hid h8
        clear h8
        obtain ⟨aVa, nVa, rfl, _⟩ := hu
        clear b1 B5 Rg2_5 Rg3_5
        go_wp2_with (first
          | (with_reducible refine wpList_load_row (o := ⟨some 36, _, _, _, _, _⟩) rfl 28 (.tmp 3) rfl g3 (by with_unfolding_all rfl) 28 (frC g (.slice A2 g.box.length c2) (.slice B2 g.sign.length d2)) (0, 0) _ (by with_unfolding_all exact Rg3_6.out) Try.underlying28 rfl (Try.sizeFr HP.out _ _) ?_))
        refine (D1.out _ _ ⟨_, _, rfl, HP.out, Z1.out.below B6.out, Z2.out.below B6.out⟩).mono ?_
        intro e w7 hh
        obtain ⟨u, he, hu, h8, b1⟩ := hh
        subst he
        have B7 := Lib.hid (below_size B6.out b1)
        have Rg2_7 := Lib.hid (Rg2_6.out.kept b1)
        have Rg3_7 := Lib.hid (Rg3_6.out.kept b1)
        have Va_7 := Lib.hid (Va_6.out.below b1)
        have UVa_7 := Lib.hid (UVa_6.out.below b1)
        have Vb_7 := Lib.hid hu
        have UVb_7 := Lib.hid h8
        clear h8
        obtain ⟨aVb, nVb, rfl, _⟩ := hu
        clear b1 B6 Rg2_6 Rg3_6 Va_6 UVa_6
        go_wp2_with (first
          | (with_reducible refine wpList_load_row (o := ⟨some 41, _, _, _, _, _⟩) rfl 28 (.tmp 2) rfl g2 (by with_unfolding_all rfl) 28 (frC f (.slice A f.box.length c) (.slice B f.sign.length d)) (0, 0) _ (by with_unfolding_all exact Rg2_7.out) Try.underlying28 rfl (Try.sizeFr HO.out _ _) ?_))
        refine (C2.out _ _ ⟨_, _, rfl, HO.out, Y1.out.below B7.out, Y2.out.below B7.out⟩).mono ?_
        intro e w8 hh
        obtain ⟨u, he, hu, h8, b1⟩ := hh
        subst he
        have B8 := Lib.hid (below_size B7.out b1)
        have Rg2_8 := Lib.hid (Rg2_7.out.kept b1)
        have Rg3_8 := Lib.hid (Rg3_7.out.kept b1)
        have Va_8 := Lib.hid (Va_7.out.below b1)
        have UVa_8 := Lib.hid (UVa_7.out.below b1)
        have Vb_8 := Lib.hid (Vb_7.out.below b1)
        have UVb_8 := Lib.hid (UVb_7.out.below b1)
        have Vc_8 := Lib.hid hu
        have UVc_8 := Lib.hid h8
        clear h8
        obtain ⟨aVc, nVc, rfl, _⟩ := hu
        clear b1 B7 Rg2_7 Rg3_7 Va_7 UVa_7 Vb_7 UVb_7
        go_wp2_with (first
          | (with_reducible refine wpList_load_row (o := ⟨some 46, _, _, _, _, _⟩) rfl 28 (.tmp 3) rfl g3 (by with_unfolding_all rfl) 28 (frC g (.slice A2 g.box.length c2) (.slice B2 g.sign.length d2)) (0, 0) _ (by with_unfolding_all exact Rg3_8.out) Try.underlying28 rfl (Try.sizeFr HP.out _ _) ?_))
        refine (D2.out _ _ ⟨_, _, rfl, HP.out, Z1.out.below B8.out, Z2.out.below B8.out⟩).mono ?_
        intro e w9 hh
        obtain ⟨u, he, hu, h8, b1⟩ := hh
        subst he
        have B9 := Lib.hid (below_size B8.out b1)
        have Rg2_9 := Lib.hid (Rg2_8.out.kept b1)
        have Rg3_9 := Lib.hid (Rg3_8.out.kept b1)
        have Va_9 := Lib.hid (Va_8.out.below b1)
        have UVa_9 := Lib.hid (UVa_8.out.below b1)
        have Vb_9 := Lib.hid (Vb_8.out.below b1)
        have UVb_9 := Lib.hid (UVb_8.out.below b1)
        have Vc_9 := Lib.hid (Vc_8.out.below b1)
        have UVc_9 := Lib.hid (UVc_8.out.below b1)
        have Vd_9 := Lib.hid hu
        have UVd_9 := Lib.hid h8
        clear h8
        obtain ⟨aVd, nVd, rfl, _⟩ := hu
        clear b1 B8 Rg2_8 Rg3_8 Va_8 UVa_8 Vb_8 UVb_8 Vc_8 UVc_8
        go_wp2
        go_ret
        exact ⟨rfl, B9.out⟩
end Go.Proofs.Ytmhhjdiilmgmoaa
end
section
namespace Go.Proofs.Ytmhhjdiilmgmoaa.frameUnlike
open Go.ChangeShapes Go.WideShapes Go.ChangeAt Go.RowKit
open Go.ChangeMaps (open_string shut_string)
set_option linter.unusedVariables false

theorem own : ownKnob Try.prog.godebug = none := by kernel_rfl
theorem laidOut : laidOutB Try.prog = true := by kernel_rfl

set_option maxRecDepth 100000 in
theorem lifted (os : Os) (started : os.Started) (H : Type) (enc : TypeId × Value → H) :
    ReturnsInHanded {} Try.checked os 7 .any (Rows.frameUnlikeSpec.pre6 enc Try.prog Try.f7 Rows.frameUnlikeRow.domain false) (Rows.frameUnlikeSpec.post enc Try.prog Try.f7 false true false false) := by
  refine returnsInHanded_of_change (C := Try.checked) own started (by kernel_rfl) Try.func7
    (ChangeSpec.witness6 (enc := enc) (C := Try.checked) false ⟨#[], #[.agg (frC zeroFr nilS nilS), .agg (frC zeroFr nilS nilS)], []⟩ 8 (by kernel_rfl) (by kernel_rfl) (by kernel_rfl) (by kernel_rfl)) ?_
  intro W base args ds gs before hval0 hW hcnd _
  have hval : ∀ (j : Nat) t v, Try.f7.params[j]? = some t → args[j]? = some v → Value.okWide Try.prog W .any base t v := hval0
  have hW' := hW
  obtain ⟨p, q, hA0, hV, rfl, hfz, hnd⟩ := hW
  have hA : DataW.TrodAll enc Try.prog W 0 (fun _ => true) true Try.f7.params.toList args.toList ds p := hA0
  rw [Try.params7] at hA hval
  obtain ⟨v0, vs0, d0, ds0, p0, q0, hargs, rfl, rfl, h0, r0⟩ := trodAll_cons hA
  obtain ⟨v1, vs1, d1, ds1, p1, q1, rfl, rfl, rfl, h1, r1⟩ := trodAll_cons r0
  obtain ⟨rfl, rfl, rfl⟩ := trodAll_nil r1
  obtain rfl : args = #[v0, v1] := by cases args; simp_all
  obtain ⟨rfl, rfl⟩ := trodVars_none hV
  have k0 := h0
  have lt0 : ∀ x ∈ p0, x.block < W.heap.size := by obtain ⟨m, hm⟩ := k0; exact DataW.trod_lt m _ _ _ hm
  obtain ⟨l0, w0⟩ := open_fr (hval 0 28 v0 rfl rfl) h0
  have k1 := h1
  have lt1 : ∀ x ∈ p1, x.block < W.heap.size := by obtain ⟨m, hm⟩ := k1; exact DataW.trod_lt m _ _ _ hm
  obtain ⟨l1, w1⟩ := open_fr (hval 1 28 v1 rfl rfl) h1
  clear hA0 hval0
  refine (frameUnlike_walk W v0 l0 w0 v1 l1 w1).mono fun e W' ⟨he, bel⟩ => ?_
  subst he
  exact ⟨_, rfl, _, _, _, [], _, [], hW', trodAll_mk1 (shut_bool Try.underlying4 _), (trodAll_cons_mk (Below.trod laidOut (by kernel_rfl) (of_decide_eq_true (by kernel_rfl)) k0 bel lt0) (trodAll_cons_mk (Below.trod laidOut (by kernel_rfl) (of_decide_eq_true (by kernel_rfl)) k1 bel lt1) trodAll_mk0)), rfl, bel.frame _, fun h => by cases h⟩

theorem over : Rows.frameUnlikeRow.holds Try.pinned (OpenSpec.ofChange Rows.frameUnlikeSpec) :=
  OpenClaim.holds_of_wide 7 Try.f7 rfl rfl rfl rfl rfl rfl rfl ⟨rfl, rfl, rfl, rfl, rfl⟩ rfl rfl rfl rfl rfl (by kernel_rfl) Try.func7 (by kernel_rfl)
    (of_decide_eq_true (by kernel_rfl)) (by unfold Func.isWrapper; first | (rw [if_pos (by decide +kernel)]; kernel_rfl) | (rw [if_neg (by decide +kernel)]; exact ⟨rfl, rfl⟩))
    (fun os started H enc _ => lifted os started H enc)

theorem proved : Rows.FrameUnlikeSaid := over
#print axioms proved
end Go.Proofs.Ytmhhjdiilmgmoaa.frameUnlike
end
