/-
  Contract of the document's least (layer 6). Conditions: seventeen digits, each below 2^46.
-/
import Derived.Test.YtejingggfbmbjaaFieldRefA
namespace Go.Proofs.Ytejingggfbmbjaa
open Go.RowKit
set_option linter.unusedVariables false
set_option maxRecDepth 20000

theorem Try.sz16 : (Try.prog.info? 33).map (·.size) = some 16 := by kernel_rfl
def zero16 : List Nat := List.replicate 16 0
theorem zero16_length : zero16.length = 16 := by simp [zero16]
theorem Try.zero16 : (Try.prog.info? 33).map (·.zero) = some (some (.agg (natsC zero16))) := by kernel_rfl
theorem zero16V : Value.agg #[.int .u64 0, .int .u64 0, .int .u64 0, .int .u64 0, .int .u64 0, .int .u64 0, .int .u64 0, .int .u64 0, .int .u64 0, .int .u64 0, .int .u64 0, .int .u64 0, .int .u64 0, .int .u64 0, .int .u64 0, .int .u64 0] = .agg (natsC zero16) := rfl
theorem getD_set_other (l : List Nat) (i u j : Nat) (h : i ≠ j) : (l.set i u).getD j 0 = l.getD j 0 := by
  simp only [List.getD_eq_getElem?_getD]
  rw [List.getElem?_set_ne h]
def lessSeq (n : Nat) : Nat → Nat
  | 0 => n
  | j + 1 => lessR (lessSeq n j)
theorem lessSeq_lt (n : Nat) (h : n < Bx ^ 16) (j : Nat) : lessSeq n j < Bx ^ 16 := by
  induction j with
  | zero => exact h
  | succ j ih => exact lessR_lt _ ih

set_option maxHeartbeats 4000000 in
theorem least_any (d : List Nat) (hd : d.length = 17) (hb : ∀ x ∈ d, x < 70368744177664) (w : World) :
    Calls Try.prog 34 #[.agg (natsC d)] w (RetV w (.agg (natsC (digR 16 ((valR (d.take 16) + 38 * d.getD 16 0) % pF))))) := by
  obtain ⟨n, hn1, hn2, hn3⟩ := seqR_four d hd hb
  have hfin : lessSeq n 3 = (valR (d.take 16) + 38 * d.getD 16 0) % pF := by rw [← hn3]; exact less_three n hn2
  have HLE : Hid (∀ j w, Calls Try.prog 44 #[.agg (natsC (digR 17 (lessSeq n j)))] w (RetV w (.agg (natsC (digR 17 (lessSeq n (j + 1))))))) := fun j w => less_any (lessSeq n j) (lessSeq_lt n hn2 j) w
  have HLN : Hid (∀ j, (digR 17 (lessSeq n j)).length = 17) := fun j => digR_length 17 _
  have HTK : Hid ((digR 17 (lessSeq n 3)).take 16 = digR 16 (lessSeq n 3)) := by
    show _ = _
    rw [digR_snoc 16, List.take_left' (digR_length 16 _)]
  rw [← hfin]
  have HF : Hid (seqR d 4 = digR 17 (lessSeq n 0)) := hn1
  have HL := Lib.hid (fun j => seqR_length d hd j)
  have HB := Lib.hid (fun j => seqR_lt d hd hb j)
  have HS : Hid (∀ j, rndR (headR (seqR d j)) 16 = seqR d (j + 1)) := fun j => rndR_all (seqR d j) (seqR_length d hd j)
  have HD := Lib.hid hd
  clear hn1 hn2 hn3 hfin hd hb
  have E0 := Env.start w
  go_enter Try.func34, Try.ntmps34
  go_wp2_with (first
    | ((with_reducible refine wpE_box (o := ⟨some 1, _, _, _, _, _⟩) rfl 55 (.tmp 0) rfl (natsC (d)) (by with_unfolding_all rfl) E0 ?_); intro g1 w1 E1)
    | ((with_reducible refine wpE_alloc (o := ⟨some 2, _, _, _, _, _⟩) rfl 33 rfl (natsC (zero16)) Try.zero16 E1 ?_); intro g2 w2 E2))
  try simp only [Act.put, List.setIfInBounds_toArray, List.set_cons_zero, List.set_cons_succ]
  have E3 := Lib.hid E2
  clear E0 E1 E2
  go_loopw [3] (fun i wr => ∃ j : Nat, j ≤ 4 ∧ i = .int .i64 j ∧ Env w [(g2, 33, natsC zero16), (g1, 55, natsC (seqR d j))] wr) (fun i _ => 4 - (intOf i).toNat)
  case atStart => exact ⟨0, by omega, rfl, E3.out⟩
  case round =>
    clear E3
    obtain ⟨j, hj, rfl, hE⟩ := hrel
    have E := Lib.hid hE
    clear hE
    by_cases hlt : j < 4
    · have hl := HL.out j
      have hbj := HB.out j
      have hs := HS.out j
      obtain ⟨L, hLe⟩ : ∃ L, L = seqR d j := ⟨_, rfl⟩
      rw [← hLe] at hl hbj hs
      have E4 := E.out
      rw [← hLe] at E4
      have g0 := getD_lt hbj (by omega) 0
      have g16 := getD_lt hbj (by omega) 16
      have hhl := headR_length L hl
      have hhb := headR_lt L hl hbj
      have hhd : headR L = (L.set 0 (L.getD 0 0 + 38 * L.getD 16 0)).set 16 0 := rfl
      have c0 := E4.getN 1 rfl 0 (by rw [hl]; omega)
      have f0 := E4.fzN 1 rfl 0
      have c16 := E4.getN 1 rfl 16 (by rw [hl]; omega)
      generalize L.getD 0 0 = x0 at c0 g0 hhd
      generalize L.getD 16 0 = x16 at c16 g16 hhd
      obtain ⟨m, hm⟩ : ∃ m, m = 38 * x16 := ⟨_, rfl⟩
      obtain ⟨s, hs0⟩ : ∃ s, s = x0 + m := ⟨_, rfl⟩
      have a0 : IntKind.u64.wrap (38 * (x16 : Int)) = (m : Int) := by rw [IntKind.wrap_u64]; omega
      have a00 : 38 * (x16 : Int) = (m : Int) := by omega
      have a1 : IntKind.u64.wrap ((x0 : Int) + (m : Int)) = (s : Int) := by rw [IntKind.wrap_u64]; omega
      have a11 : (x0 : Int) + (m : Int) = (s : Int) := by omega
      have hsb : s < 18446744073709551616 := by omega
      have hj5 : (j : Int) < 4 := by omega
      rw [← hm, ← hs0] at hhd
      have E5 := E4.cellN 1 rfl 0 s
      simp only [List.set_cons_zero, List.set_cons_succ] at E5
      have f16 := E5.fzN 1 rfl 16
      have c161 := E5.getN 1 rfl 16 (by rw [List.length_set, hl]; omega)
      generalize (L.set 0 s).getD 16 0 = y16 at c161
      have E6 := E5.cellN 1 rfl 16 0
      simp only [List.set_cons_zero, List.set_cons_succ] at E6
      rw [← hhd, ← rndR_zero (headR L) hhl] at E6
      have HE := Lib.hid E6
      have HSJ := Lib.hid hs
      have HHL := Lib.hid hhl
      have HHB := Lib.hid hhb
      clear hm hs0 hhd E4 E5 E6 hs hhl hhb hl hbj g0 g16 E hLe
      go_wp2
      go_loopw [4] (fun i wr => ∃ k : Nat, k ≤ 16 ∧ i = .int .i64 k ∧ Env w [(g2, 33, natsC zero16), (g1, 55, natsC (rndR (headR L) k))] wr) (fun i _ => 16 - (intOf i).toNat)
      case atStart => exact ⟨0, by omega, rfl, HE.out⟩
      case round =>
        clear HE c0 f0 c16 f16 c161 a0 a00 a1 a11
        obtain ⟨k, hk, rfl, hE⟩ := hrel
        have E := Lib.hid hE
        clear hE
        by_cases hlk : k < 16
        · have c1 := E.out.getN 1 rfl k (by rw [rndR_length _ HHL.out k (by omega)]; omega)
          have c2 := E.out.getN 1 rfl (k + 1) (by rw [rndR_length _ HHL.out k (by omega)]; omega)
          rw [rndR_get _ HHL.out k (by omega)] at c1
          rw [rndR_next _ HHL.out k hlk] at c2
          have f1 := E.out.fzN 1 rfl k
          have f2 := E.out.fzN 1 rfl (k + 1)
          have hst := rndR_step (headR L) HHL.out k hlk
          have b1 := getD_lt HHB.out (by omega) k
          have b2 := getD_lt HHB.out (by omega) (k + 1)
          have b3 := cyR_lt (headR L) _ HHB.out (by omega) k (by rw [HHL.out]; omega)
          generalize (headR L).getD (k + 1) 0 = y at c2 b2 hst
          obtain ⟨x, hx⟩ : ∃ x, x = (headR L).getD k 0 + cyR (headR L) k := ⟨_, rfl⟩
          have hxb : x < 18014398509481984 := by rw [hx]; unfold Bx at b3; omega
          rw [← hx] at c1 hst
          obtain ⟨u, hu⟩ : ∃ u, u = x / 65536 := ⟨_, rfl⟩
          obtain ⟨s, hs⟩ : ∃ s, s = y + u := ⟨_, rfl⟩
          obtain ⟨r, hr⟩ : ∃ r, r = x % 65536 := ⟨_, rfl⟩
          have d1 : (x : Int) / 65536 = (u : Int) := by omega
          have d2 : (x : Int) % 65536 = (r : Int) := by omega
          have a1 : IntKind.u64.wrap ((y : Int) + (u : Int)) = (s : Int) := by rw [IntKind.wrap_u64]; omega
          have a2 : IntKind.u64.wrap (u : Int) = (u : Int) := wrap64 u (by omega)
          have hw1 : IntKind.i64.wrap ((k : Int) + 1) = (k : Int) + 1 := IntWalk.i64_in _ (by omega)
          have hq0 : 0 ≤ (k : Int) + 1 := by omega
          have hq1 : ((k : Int) + 1).toNat = k + 1 := by omega
          have hq2 : (k : Int) + 1 < 17 := by omega
          have hq3 : (k : Int) < 17 := by omega
          rw [← hu, ← hr, ← hs] at hst
          have E4 := E.out.drew.cellN 1 rfl (k + 1) s
          simp only [List.set_cons_zero, List.set_cons_succ] at E4
          have c3 := E4.getN 1 rfl k (by rw [List.length_set, rndR_length _ HHL.out k (by omega)]; omega)
          have f3 := E4.fzN 1 rfl k
          rw [show ((rndR (headR L) k).set (k + 1) s).getD k 0 = x from (getD_set_other _ _ _ _ (Nat.ne_of_gt (Nat.lt_succ_self _))).trans ((rndR_get _ HHL.out k (by omega)).trans hx.symm)] at c3
          have E5 := E4.cellN 1 rfl k r
          simp only [List.set_cons_zero, List.set_cons_succ] at E5
          rw [hst] at E5
          have HE := Lib.hid E5
          clear hx hu hs hr hst b3 E4 E5 E b1 b2
          go_wp2_with fail
          go_still_tail 12, (by kernel_rfl)
          change wpList _ _ _ _ _ wr.drew
          have c4 : wr.drew.cell? ⟨g1, k + 1, none⟩ = some (.int .u64 (y : Int)) := c2
          have f4 : wr.drew.frozen? ⟨g1, k + 1, none⟩ = false := f2
          clear c2 f2 a1 a2 d1 hw1 c3 f3
          go_wp2
          go_roundw
          case rel => exact ⟨k + 1, by omega, by go_num, HE.out⟩
          case measure => simp [intOf]; omega
        · have hk16 : k = 16 := by omega
          have E4 := E.out
          rw [hk16, HSJ.out] at E4
          have HE := Lib.hid E4
          clear E4 E hk16
          go_wp2
          go_roundw
          case rel => exact ⟨j + 1, by omega, by go_num, HE.out⟩
          case measure => simp [intOf]; omega
    · have hj4 : j = 4 := by omega
      have E4 := E.out
      rw [hj4, HF.out] at E4
      have HE := Lib.hid E4
      clear E4 E hj4
      go_wp2
      go_loopw [5] (fun i wr => ∃ k : Nat, k ≤ 3 ∧ i = .int .i64 k ∧ Env w [(g2, 33, natsC zero16), (g1, 55, natsC (digR 17 (lessSeq n k)))] wr) (fun i _ => 3 - (intOf i).toNat)
      case atStart => exact ⟨0, by omega, rfl, HE.out⟩
      case round =>
        clear HE
        obtain ⟨k, hk, rfl, hE⟩ := hrel
        have E := Lib.hid hE
        clear hE
        by_cases hlk : k < 3
        · go_wp2_with (first
            | (with_reducible refine wpE_load (o := ⟨some 46, _, _, _, _, _⟩) rfl 55 (.tmp 1) rfl 1 g1 55 (natsC (digR 17 (lessSeq n k))) _ (by with_unfolding_all rfl) (by with_unfolding_all rfl) Try.underlying55 rfl (sizeN Try.sz17 _ (HLN.out k)) E.out ?_)
            | ((with_reducible refine (HLE.out k _).mono ?_); rintro e w6 ⟨rfl, b6⟩; have E7 := Lib.hid (E.out.call b6); clear b6)
            | ((with_reducible refine wpE_store (o := ⟨none, _, _, _, _, _⟩) rfl 55 (.tmp 1) (.tmp 47) rfl 1 g1 55 (natsC (digR 17 (lessSeq n k))) (natsC (digR 17 (lessSeq n (k + 1)))) (by with_unfolding_all rfl) (by with_unfolding_all rfl) (by with_unfolding_all rfl) (natsC_same (HLN.out k) (HLN.out (k + 1))) (sizeN Try.sz17 _ (HLN.out (k + 1))) (natsC_one _) E7.out ?_); intro w8 E8; simp only [List.set_cons_zero, List.set_cons_succ] at E8))
          have HE := Lib.hid E8
          clear E8
          go_roundw
          case rel => exact ⟨k + 1, by omega, by go_num, HE.out⟩
          case measure => simp [intOf]; omega
        · have hk3 : k = 3 := by omega
          have E4 := E.out
          rw [hk3] at E4
          have HE := Lib.hid E4
          clear E4 E hk3
          go_wp2_with (first
            | ((with_reducible refine wpE_alloc (o := ⟨some 6, _, _, _, _, _⟩) rfl 33 rfl (natsC (zero16)) Try.zero16 HE.out ?_); intro g3 w5 E5)
            | ((with_reducible refine wpE_store (o := ⟨none, _, _, _, _, _⟩) rfl 33 (.tmp 6) (.tmp 48) rfl 0 g3 33 (natsC (zero16)) (natsC (zero16)) (by with_unfolding_all rfl) (by with_unfolding_all rfl) (by with_unfolding_all exact zero16V) (natsC_same zero16_length zero16_length) (sizeN Try.sz16 _ zero16_length) (natsC_one _) E5 ?_); intro w6 E6; simp only [List.set_cons_zero] at E6))
          have E7 := Lib.hid E6
          have HZL : Hid (((digR 17 (lessSeq n 3)).take 16).length = 16) := by show _ = _; rw [HTK.out, digR_length]
          clear E5 E6 HE
          go_loopw [7] (fun i wr => ∃ k : Nat, k ≤ 16 ∧ i = .int .i64 k ∧ Env w [(g3, 33, natsC (stP ((digR 17 (lessSeq n 3)).take 16) zero16 k)), (g2, 33, natsC zero16), (g1, 55, natsC (digR 17 (lessSeq n 3)))] wr) (fun i _ => 16 - (intOf i).toNat)
          case atStart => exact ⟨0, by omega, rfl, by rw [stP_zero]; exact E7.out⟩
          case round =>
            clear E7
            obtain ⟨k, hk, rfl, hE⟩ := hrel
            have E := Lib.hid hE
            clear hE
            by_cases hl16 : k < 16
            · have c1 := E.out.getN 2 rfl k (by rw [HLN.out]; omega)
              have c2 := E.out.getN 0 rfl k (by rw [stP_length _ _ HZL.out zero16_length k hk]; omega)
              have f2 := E.out.fzN 0 rfl k
              have hst := stP_step ((digR 17 (lessSeq n 3)).take 16) zero16 HZL.out zero16_length k hl16
              have hg : ((digR 17 (lessSeq n 3)).take 16).getD k 0 = (digR 17 (lessSeq n 3)).getD k 0 := by
                simp only [List.getD_eq_getElem?_getD]
                rw [List.getElem?_take_of_lt hl16]
              rw [hg] at hst
              generalize (stP ((digR 17 (lessSeq n 3)).take 16) zero16 k).getD k 0 = old at c2
              have E4 := E.out.cellN 0 rfl k ((digR 17 (lessSeq n 3)).getD k 0)
              simp only [List.set_cons_zero] at E4
              rw [hst] at E4
              have HE := Lib.hid E4
              generalize (digR 17 (lessSeq n 3)).getD k 0 = x at c1 HE
              have hq3 : (k : Int) < 17 := by omega
              have hq4 : (k : Int) < 16 := by omega
              clear hst hg E4 E
              go_wp2
              go_roundw
              case rel => exact ⟨k + 1, by omega, by go_num, HE.out⟩
              case measure => simp [intOf]; omega
            · have hk16 : k = 16 := by omega
              have E4 := E.out
              rw [hk16, stP_all _ _ HZL.out zero16_length, HTK.out] at E4
              have HE := Lib.hid E4
              have HFL : Hid ((digR 16 (lessSeq n 3)).length = 16) := digR_length 16 _
              clear E4 E hk16
              go_wp2_with (first
                | (with_reducible refine wpE_load (o := ⟨some 58, _, _, _, _, _⟩) rfl 33 (.tmp 6) rfl 0 g3 33 (natsC (digR 16 (lessSeq n 3))) _ (by with_unfolding_all rfl) (by with_unfolding_all rfl) Try.underlying33 rfl (sizeN Try.sz16 _ HFL.out) HE.out ?_)
                | ((with_reducible refine wpE_store (o := ⟨none, _, _, _, _, _⟩) rfl 33 (.tmp 2) (.tmp 58) rfl 1 g2 33 (natsC (zero16)) (natsC (digR 16 (lessSeq n 3))) (by with_unfolding_all rfl) (by with_unfolding_all rfl) (by with_unfolding_all rfl) (natsC_same zero16_length HFL.out) (sizeN Try.sz16 _ HFL.out) (natsC_one _) HE.out ?_); intro w9 E9; simp only [List.set_cons_zero, List.set_cons_succ] at E9))
              exact bodyPost_ret (results_cell_row rfl _ _ g2 33 (natsC (digR 16 (lessSeq n 3))) (0, 0) _ rfl (E9.row 1 rfl) Try.underlying33 rfl (sizeN Try.sz16 _ HFL.out)) rfl (E9.ret _)
end Go.Proofs.Ytejingggfbmbjaa
