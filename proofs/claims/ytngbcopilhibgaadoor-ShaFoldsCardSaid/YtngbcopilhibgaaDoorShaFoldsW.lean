/-
  The walk of ShaFolds. Conditions: what a row hands over.
-/
import Derived.Test.YtngbcopilhibgaaDoorShaU
import Derived.Deep.QuietTactic
import Derived.BigQuiet
namespace Go.Proofs.YtngbcopilhibgaaDoor
open Go.RowKit
set_option linter.unusedVariables false
set_option maxRecDepth 20000

theorem bytesOfW_four (l : List UInt32) : ∀ (i : Nat), i < l.length → ((bytesOfW l).drop (4 * i)).take 4 = (lowB (l.getD i 0).toNat 4).reverse := by
  induction l with
  | nil => intro i h; simp at h
  | cons x l ih =>
    intro i h
    have e : bytesOfW (x :: l) = (lowB x.toNat 4).reverse ++ bytesOfW l := rfl
    have e4 : (lowB x.toNat 4).reverse.length = 4 := by rw [List.length_reverse, lowB_length]
    rcases i with _ | i
    · rw [e, Nat.mul_zero, List.drop_zero, List.take_left' e4]
      rfl
    · rw [e, show 4 * (i + 1) = (lowB x.toNat 4).reverse.length + 4 * i by rw [e4]; omega, ← List.drop_drop, List.drop_left, ih i (by simpa using h)]
      simp
theorem ofHigh_four (x : UInt32) : (ofHighB ((lowB x.toNat 4).reverse.take 8) : Int) = (x.toNat : Int) := by
  have := x.toNat_lt
  rw [List.take_of_length_le (by simp [lowB_length]), ofHighB, List.reverse_reverse, ofLowB_lowB]
  omega

set_option maxHeartbeats 4000000 in
theorem shaFolds_walk (w : World) (hq : Tabs w) (va : Value) (a : List UInt8) (ha : Bs w va a) (vb : Value) (b : List UInt8) (hb : Bs w vb b) :
    Calls Tryd.prog 8 #[va, vb] w (RetV w (.bool true)) := by
  have HQ := Lib.hid hq
  have HVA := Lib.hid ha
  have HVB := Lib.hid hb
  obtain ⟨A1, c1, rfl, a1, a2, a3⟩ := ha
  obtain ⟨A2, c2, rfl, x1, x2, x3⟩ := hb
  unfold maxLen at a2 x2
  clear hq a3 x3
  by_cases hla : 300 < a.length
  · have d1 : decide ((300 : Int) < (a.length : Int)) = true := by simp; omega
    go_enter Tryd.func8, Tryd.ntmps8
    go_wp2_with fail
    refine (awake_true _ HQ.out).mono ?_
    intro e w1 h
    obtain ⟨he, b1⟩ := h
    subst he
    go_wp2
    go_ret
    exact ⟨rfl, b1⟩
  · have d1 : decide ((300 : Int) < (a.length : Int)) = false := by simp; omega
    by_cases hlb : 300 < b.length
    · have d2 : decide ((300 : Int) < (b.length : Int)) = true := by simp; omega
      go_enter Tryd.func8, Tryd.ntmps8
      go_wp2_with fail
      refine (awake_true _ HQ.out).mono ?_
      intro e w1 h
      obtain ⟨he, b1⟩ := h
      subst he
      go_wp2
      go_ret
      exact ⟨rfl, b1⟩
    · have d2 : decide ((300 : Int) < (b.length : Int)) = false := by simp; omega
      obtain ⟨ab, hab⟩ : ∃ ab, ab = a ++ b := ⟨_, rfl⟩
      have habl : ab.length = a.length + b.length := by rw [hab, List.length_append]
      obtain ⟨N, hN, hN1, hN2⟩ := paddedB_blocks ab
      obtain ⟨all, hall⟩ : ∃ all, all = paddedB ab := ⟨_, rfl⟩
      rw [← hall] at hN
      have HN := Lib.hid hN
      have HA : Hid (all = ([] ++ a) ++ b ++ padB (a.length + b.length)) := by show _ = _; rw [hall, paddedB, habl, hab, List.nil_append]
      have hpl := padB_length (a.length + b.length)
      obtain ⟨sn, hsn⟩ : ∃ sn, sn = foldB squaresW all N := ⟨_, rfl⟩
      have LS : Hid (sn.length = 8) := by show _ = _; rw [hsn, foldB_length _ _ _ squaresW_length]
      obtain ⟨fin, hfin⟩ : ∃ fin, fin = bytesOfW sn := ⟨_, rfl⟩
      have LF : Hid (fin.length = 32) := by show _ = _; rw [hfin, bytesOfW_length, LS.out]
      have HD : Hid (fin = digestB [a, b].flatten) := by
        show _ = _
        rw [show [a, b].flatten = ab by rw [hab]; simp, hfin, hsn, digestB, ← hall, hN, Nat.mul_div_cancel_left _ (by omega)]
      have HSN := Lib.hid hsn
      have HFIN := Lib.hid hfin
      have hpd : (padB (a.length + b.length)).length ≤ 72 := by omega
      have hNl : 64 * N ≤ 672 := by omega
      obtain ⟨pl, hpl2⟩ : ∃ pl, pl = a.length + b.length := ⟨_, rfl⟩
      have HPL : Hid ((a.length : Int) + (b.length : Int) = (pl : Int)) := by show _ = _; omega
      rw [← hpl2] at hpd HA
      have hplb : pl ≤ 600 := by omega
      clear hN hall hpl hsn hfin hab habl hpl2 hN2
      go_enter Tryd.func8, Tryd.ntmps8
      go_wp2_with fail
      refine (awake_true _ HQ.out).mono ?_
      intro e w1 h
      obtain ⟨he, b1⟩ := h
      subst he
      have B1 := Lib.hid b1
      clear b1
      go_wp2_with fail
      refine (New_any _ false).mono ?_
      intro e w2 h
      obtain ⟨gm, he, n2⟩ := h
      subst he
      have M2 := Lib.hid (Meet.new (HQ.out.below B1.out) B1.out n2)
      clear n2 B1
      go_wp2_with (first
        | ((with_reducible refine wpList_alloc_row (o := ⟨some 7, _, _, _, _, _⟩) rfl 23 rfl (wordsC (List.replicate 8 0)) Tryd.zero8 ?_); intro g7 wa na)
        | ((with_reducible refine wpList_store_row (o := ⟨none, _, _, _, _, _⟩) rfl 23 (.tmp 7) (.tmp 26) rfl g7 23 _ (wordsC squaresW) (by with_unfolding_all rfl) (by with_unfolding_all exact Tryd.litsS) na.row (by rw [wordsC_size, wordsC_size, squaresW_length, List.length_replicate]) (Tryd.size8l squaresW squaresW_length) (wordsC_one _) ?_); intro w3 pa; have M3 := Lib.hid (M2.out.kept (laid_put na pa).1); have Q3 := Lib.hid pa.row; clear na pa M2)
        | (at_builtin; refine wpList_appB _ rfl (.tmp 27) (.tmp 28) 27 rfl w3 5 Tryd.infoB Tryd.underlying27 _ _ [] a rfl rfl (OwnB.empty2 _ _ _ (Nat.le_refl _)) ((HVA.out.below M3.out.below).below (alloc_below _ _)) (by simp; omega) (alloc_below _ _) ?_; intro v4 w4 own4 b4)
        | (at_builtin; refine wpList_appB _ rfl (.tmp 29) (.tmp 30) 27 rfl w3 5 Tryd.infoB Tryd.underlying27 _ _ ([] ++ a) b rfl rfl own4 ((HVB.out.below M3.out.below).below b4) (by simp; omega) b4 ?_; intro v5 w5 own5 b5))
      rw [HPL.out]
      refine (Pad_any _ pl (by omega)).mono ?_
      intro e w6 h
      obtain ⟨u, he, hu, b6⟩ := h
      subst he
      have HU := Lib.hid hu
      have HO := Lib.hid (own5.below b6)
      have B6 := Lib.hid (below_size b5 b6)
      clear own4 own5 b4 b5 b6 hu
      go_wp2_with (first
        | (at_builtin; refine wpList_appB _ rfl (.tmp 31) (.tmp 37) 27 rfl w3 5 Tryd.infoB Tryd.underlying27 _ _ (([] ++ a) ++ b) (padB pl) rfl rfl HO.out HU.out (by simp; omega) B6.out ?_; intro v7 w5 own7 b7; rw [← HA.out] at own7; obtain ⟨A7, c7, rfl, m1, m2, m3⟩ := own7.bs; have M7 := Lib.hid (M3.out.kept b7); have Q7 := Lib.hid (Q3.out.kept b7); have hNl2 := HN.out; obtain ⟨len, hle⟩ : ∃ len, len = all.length := ⟨_, rfl⟩; rw [← hle] at m1 ⊢; have hle2 : len = 64 * N := (by omega); have hmod : (((len : Int) % 64) != 0) = false := (by rw [bne_eq_false_iff_eq]; omega); obtain ⟨bb, oo, rfl, hcells⟩ := m3 (by omega); have HC7 := Lib.hid hcells; have HLE := Lib.hid hle; have HL2 := Lib.hid hle2; have hlb2 : len ≤ 672 := (by omega); unfold maxLen at m2; clear m3 own7 b7 hNl2 hle hle2 hcells HU HO B6 M3 Q3)
        | (with_reducible refine wpList_load_row (o := ⟨some 43, _, _, _, _, _⟩) rfl 23 (.tmp 7) rfl g7 (by with_unfolding_all rfl) 23 (wordsC squaresW) (0, 0) (.array 8 22) (by with_unfolding_all exact Q7.out) Tryd.underlying23 rfl (Tryd.size8l squaresW squaresW_length) ?_)
        | ((with_reducible refine wpList_alloc_row (o := ⟨some 9, _, _, _, _, _⟩) rfl 23 rfl (wordsC (List.replicate 8 0)) Tryd.zero8 ?_); intro g6 w8 n8)
        | ((with_reducible refine wpList_store_row (o := ⟨none, _, _, _, _, _⟩) rfl 23 (.tmp 9) (.tmp 43) rfl g6 23 _ (wordsC squaresW) (by with_unfolding_all rfl) (by with_unfolding_all rfl) n8.row (by rw [wordsC_size, wordsC_size, squaresW_length, List.length_replicate]) (Tryd.size8l squaresW squaresW_length) (wordsC_one _) ?_); intro w9 p9))
      have b9 := (laid_put n8 p9).1
      have HC5 := Lib.hid HC7.out
      have B57 := Lib.hid b9
      have S7 : Hid (RowAt w9 g6 23 (wordsC (foldB squaresW all 0))) := p9.row
      have ltb : bb < w5.heap.size := World.block_lt_of_cell? w5 _ (HC7.out 0 (by rw [← HLE.out, HL2.out]; omega))
      have hg6 : w5.heap.size ≤ g6 := Nat.le_of_eq n8.spot.symm
      have BW5 : Hid (Below w.heap.size w w5) := M7.out.below
      clear n8 p9 b9 HC7 Q7 hmod
      go_loopw [10] (fun i wr => ∃ k p : Nat, p = 64 * k ∧ k ≤ N ∧ i = .int .i64 p ∧ RowAt wr g6 23 (wordsC (foldB squaresW all k)) ∧ Below w5.heap.size w5 wr) (fun i _ => 2000000 - (intOf i).toNat)
      case atStart => exact ⟨0, 0, rfl, by omega, rfl, S7.out, B57.out⟩
      case round =>
        clear S7 B57
        obtain ⟨k, p, hp, hk, rfl, hr, hb⟩ := hrel
        have R6 := Lib.hid hr
        have HB := Lib.hid hb
        have hp2 : p ≤ len := by rw [HL2.out, hp]; omega
        clear hr hb
        by_cases hlt : k < N
        · have ht : p + 64 ≤ len := by rw [HL2.out, hp]; omega
          have HP := Lib.hid hp
          have hst := foldB_length squaresW all k squaresW_length
          have hst2 := foldB_length squaresW all (k + 1) squaresW_length
          have hblk := foldB_next all squaresW k
          have hcl := chunkB_length all k (by rw [← HLE.out]; omega)
          have HCH : Hid (∀ i (hi : i < 64), ∀ W, Below w5.heap.size w5 W → W.cell? ⟨bb, oo + (p + i), none⟩ = some (.int .u8 (((chunkB all k).getD i 0).toNat : Int))) := by
            intro i hi W hW
            have hx := HC5.out (p + i) (by rw [← HLE.out]; omega)
            rw [chunkB_getD all k i (by rw [← HLE.out]; omega) hi]
            refine (hW.cell (p := ⟨bb, oo + (p + i), none⟩) ltb).trans ?_
            rw [hx]
            simp [HP.out]
          generalize chunkB all k = ch at *
          generalize hs1 : foldB squaresW all k = s1 at *
          generalize hs2 : foldB squaresW all (k + 1) = s2 at *
          have HS1 := Lib.hid hst
          have HS2 := Lib.hid hst2
          have HBK := Lib.hid hblk
          have HCL := Lib.hid hcl
          have HSS2 := Lib.hid hs2
          clear hp hst hst2 hblk hcl hs1 hs2
          go_wp2_with ((with_reducible refine wpList_alloc_row (o := ⟨some 11, _, _, _, _, _⟩) rfl 24 rfl (keyC zb64) Tryd.zeroB64 ?_); intro g8 w8 n8)
          have R68 := Lib.hid (R6.out.kept n8.below)
          have B8 := Lib.hid (below_size HB.out n8.below)
          have R88 : Hid (RowAt w8 g8 24 (keyC (partly ch 0))) := by
            have := n8.row
            rwa [show zb64 = partly ch 0 by rw [partly_zero, HCL.out]; rfl] at this
          have h68 : g6 ≠ g8 := by have := n8.spot; have := R6.out.lt; omega
          have hg8 : w5.heap.size ≤ g8 := by have := n8.spot; have := HB.out.size; omega
          clear n8 R6 HB
          go_loopw [12] (fun i wr => ∃ j : Nat, j ≤ 64 ∧ i = .int .i64 j ∧ RowAt wr g6 23 (wordsC s1) ∧ RowAt wr g8 24 (keyC (partly ch j)) ∧ Below w5.heap.size w5 wr) (fun i _ => 64 - (intOf i).toNat)
          case atStart => exact ⟨0, by omega, rfl, R68.out, R88.out, B8.out⟩
          case round =>
            clear R68 R88 B8
            rename_i k0 _ _ _ _
            obtain ⟨j, hj, rfl, hr6, hr8, hb⟩ := hrel
            have R6 := Lib.hid hr6
            have R8 := Lib.hid hr8
            have HB := Lib.hid hb
            clear hr6 hr8 hb
            by_cases hlj : j < 64
            · have hpl := partly_length ch j (by rw [HCL.out]; omega)
              have hc0 := HCH.out j hlj _ HB.out
              have hc1 := bytesC_cellD R8.out j (by rw [hpl, HCL.out]; exact hlj)
              have hfz := R8.out.frozen j
              have hput := R8.out.put j (.int .u8 ((ch.getD j 0).toNat : Int))
              rw [bytesC_put, partly_stepD ch j (by rw [HCL.out]; exact hlj)] at hput
              have HPT := Lib.hid hput
              generalize ch.getD j 0 = y at hc0 HPT
              generalize (partly ch j).getD j 0 = old at hc1
              have e1 : (p : Int) + (j : Int) < (len : Int) := by omega
              have e2 : (0 : Int) ≤ (p : Int) + (j : Int) := by omega
              have e3 : ((p : Int) + (j : Int)).toNat = p + j := by omega
              have e4 : IntKind.i64.wrap ((p : Int) + (j : Int)) = (p : Int) + (j : Int) := IntWalk.i64_in _ (by omega)
              clear hput hpl
              go_wp2_with fail
              go_roundw
              case rel => exact ⟨j + 1, by omega, by go_num, R6.out.far (by show g6 ≠ g8; exact h68) _, HPT.out, HB.out.setCell hg8 _⟩
              case measure => simp [intOf]; omega
            · have hj64 : j = 64 := by omega
              have R8b : Hid (RowAt wr g8 24 (keyC ch)) := by
                have := R8.out
                rw [hj64, show 64 = ch.length from HCL.out.symm, partly_all] at this
                exact this
              clear hj64 R8 HCH
              go_wp2_with (first
                | (with_reducible refine wpList_load_row (o := ⟨some 63, _, _, _, _, _⟩) rfl 23 (.tmp 9) rfl g6 (by with_unfolding_all rfl) 23 (wordsC s1) (0, 0) (.array 8 22) (by with_unfolding_all exact R6.out) Tryd.underlying23 rfl (Tryd.size8l s1 HS1.out) ?_)
                | (with_reducible refine wpList_load_row (o := ⟨some 64, _, _, _, _, _⟩) rfl 24 (.tmp 11) rfl g8 (by with_unfolding_all rfl) 24 (keyC ch) (0, 0) (.array 64 5) (by with_unfolding_all exact R8b.out) Tryd.underlying24 rfl (Tryd.size64b ch HCL.out) ?_))
              refine (Block_any _ (HQ.out.below (below_size BW5.out HB.out)) s1 ch HS1.out HCL.out).mono ?_
              intro e w10 h
              obtain ⟨he, b10⟩ := h
              subst he
              rw [← HBK.out]
              have R6a := Lib.hid (R6.out.kept b10)
              have Ba := Lib.hid (below_size HB.out b10)
              have hg6s : w5.heap.size ≤ w10.heap.size := Ba.out.size
              clear b10 R6 HB R8b
              go_wp2_with ((with_reducible refine wpList_store_row (o := ⟨none, _, _, _, _, _⟩) rfl 23 (.tmp 9) (.tmp 65) rfl g6 23 _ (wordsC s2) (by with_unfolding_all rfl) (by with_unfolding_all rfl) R6a.out (by rw [wordsC_size, wordsC_size, HS1.out, HS2.out]) (Tryd.size8l s2 HS2.out) (wordsC_one s2) ?_); intro w11 p11)
              go_roundw
              case rel => exact ⟨k + 1, p + 64, by have := HP.out; omega, by omega, by go_num, by rw [HSS2.out]; exact p11.row, p11.below Ba.out hg6s hg6⟩
              case measure => simp [intOf]; omega
        · have hkN : k = N := by omega
          have ht : ¬ (p + 64 ≤ len) := by rw [HL2.out, hp, hkN]; omega
          have S6 : Hid (RowAt wr g6 23 (wordsC sn)) := by
            have := R6.out
            rw [hkN, ← HSN.out] at this
            exact this
          have MX := Lib.hid (M7.out.kept HB.out)
          have h6m : g6 ≠ gm := by have := M7.out.row.lt; omega
          clear HB BW5 M7
          go_wp2_with fail
          refine (Sum_meet w _ gm 0 _ [a, b] fin (by exact MX.out.kept (alloc_below _ _)) (by omega) HD.out (by exact Bss.two _ _ _ _ _ _ (HVA.out.below MX.out.below) (HVB.out.below MX.out.below)) (by simp; omega) (by simp)).mono ?_
          intro e w20 h
          obtain ⟨he, m20, l20⟩ := h
          subst he
          have B20 := Lib.hid m20.below
          have S20 := Lib.hid (l20.row _ _ _ h6m (S6.out.kept (alloc_below _ _)))
          clear m20 l20 S6 MX
          go_wp2_with (first
            | ((with_reducible refine wpList_alloc_row (o := ⟨some 13, _, _, _, _, _⟩) rfl 33 rfl (keyC zeroKey) Tryd.zeroK ?_); intro g13 w21 n21)
            | ((with_reducible refine wpList_store_row (o := ⟨none, _, _, _, _, _⟩) rfl 33 (.tmp 13) (.tmp 70) rfl g13 33 _ (keyC fin) (by with_unfolding_all rfl) (by with_unfolding_all rfl) n21.row (keyC_same zeroKey_length LF.out) (Tryd.sizeKey fin LF.out) (keyC_one fin) ?_); intro w22 p22))
          have b22 := (laid_put n21 p22).1
          have B22 := Lib.hid (below_size B20.out b22)
          have S22 := Lib.hid (S20.out.kept b22)
          have R22 := Lib.hid p22.row
          clear n21 p22 b22 B20 S20
          go_loopw [14] (fun i wr => ∃ j : Nat, j ≤ 8 ∧ i = .int .i64 j ∧ RowAt wr g6 23 (wordsC sn) ∧ RowAt wr g13 33 (keyC fin) ∧ Below w.heap.size w wr) (fun i _ => 8 - (intOf i).toNat)
          case atStart => exact ⟨0, by omega, rfl, S22.out, R22.out, B22.out⟩
          case round =>
            clear S22 R22 B22
            rename_i k0 _ _ _ _
            obtain ⟨j, hj, rfl, hr6, hr8, hb⟩ := hrel
            have R6 := Lib.hid hr6
            have R8 := Lib.hid hr8
            have HB := Lib.hid hb
            clear hr6 hr8 hb
            by_cases hlj : j < 8
            · have hsl := fun x : World => run_sliceArr (P := Tryd.prog) x 33 5 32 Tryd.underlying33 Tryd.sizeB g13 0 (4 * j) (4 * j + 4) (4 * (j : Int)) (4 * (j : Int) + 4) (by omega) (by omega) (by omega) (by omega) (by omega)
              rw [Nat.zero_add, show 4 * j + 4 - 4 * j = 4 by omega] at hsl
              have hc0 := wordsC_cell R6.out j (by rw [LS.out]; omega)
              have HCA : Hid (∀ x, RowAt x g13 33 (keyC fin) → Calls Tryd.prog 29 #[.slice (some ⟨g13, 4 * j, none⟩) 4 (32 - 4 * j)] x fun e w' => e = .returned (.int .u64 ((sn.getD j 0).toNat : Int)) ∧ w' = x) := fun x hx => by
                have hp := refOfHigh_any x _ _ (Bs.part hx (4 * j) 4 (32 - 4 * j) (by rw [LF.out]; omega) (by omega) (by unfold maxLen; omega))
                rw [HFIN.out, bytesOfW_four sn j (by rw [LS.out]; exact hlj), ofHigh_four] at hp
                exact hp.mono fun _ _ h => ⟨h.1, h.2.symm⟩
              generalize sn.getD j 0 = x at hc0 HCA
              have hx := x.toNat_lt
              have e1 : IntKind.i64.wrap (4 * (j : Int)) = 4 * (j : Int) := IntWalk.i64_in _ (by omega)
              have e2 : IntKind.i64.wrap (4 * (j : Int) + 4) = 4 * (j : Int) + 4 := IntWalk.i64_in _ (by omega)
              have e3 : IntKind.u64.wrap (x.toNat : Int) = (x.toNat : Int) := by rw [IntKind.wrap_u64]; omega
              have e4 : ((x.toNat : Int) != (x.toNat : Int)) = false := by simp
              have hq : (j : Int) < 8 := by omega
              go_wp2_with fail
              go_quiet ((refine Calls.quiet_of_same (HCA.out _ ?_); exact R8.out.drewN _))
              go_wp2_with fail
              go_roundw
              case rel => exact ⟨j + 1, by omega, by go_num, R6.out.drewN nq, R8.out.drewN nq, below_drewN HB.out nq⟩
              case measure => simp [intOf]; omega
            · have hj8 : j = 8 := by omega
              clear hj8
              go_wp2
              go_ret
              exact ⟨rfl, HB.out⟩
end Go.Proofs.YtngbcopilhibgaaDoor
