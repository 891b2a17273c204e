/-
  Texts that belong together, merged: FieldRefD, FieldRefE, FieldRefF, FieldRefG, ArrEq. Conditions: as each theorem names them.
-/
import Derived.Test.YtpgjcmccfpjmoaaQLadAK
import Derived.Test.YtpgjcmccfpjmoaaQLadAE
import Derived.Stop.BytesEq
import Derived.StillTactics
section
namespace Go.Proofs.Ytpgjcmccfpjmoaa
open Go.RowKit
set_option linter.unusedVariables false
set_option maxRecDepth 20000

/-- What stands in the middle of the products: i whole rows, and j products of the next one. -/
def mulAt (x y W : List Nat) (i j : Nat) : Prop := W.length = 32 ∧ (∀ v ∈ W, v ≤ (16 * i + j) * 4294836225) ∧ valR W = valR (x.take i) * valR y + x.getD i 0 * valR (y.take j) * Bx ^ i
theorem mulAt_zero (x y : List Nat) : mulAt x y zero32n 0 0 := ⟨by simp [zero32n], by intro v hv; simp [zero32n] at hv; omega, by
  have : valR zero32n = 0 := by decide
  rw [this]
  simp [valR]⟩
theorem mulAt_step {x y W : List Nat} {i j : Nat} (hx : x.getD i 0 < 65536) (hy : y.getD j 0 < 65536) (hi : i < 16) (hj : j < 16) (hyl : y.length = 16) (h : mulAt x y W i j) : mulAt x y (W.set (i + j) (W.getD (i + j) 0 + x.getD i 0 * y.getD j 0)) i (j + 1) := by
  obtain ⟨h1, h2, h3⟩ := h
  have hm : x.getD i 0 * y.getD j 0 ≤ 65535 * 65535 := Nat.mul_le_mul (by omega) (by omega)
  have hg : W.getD (i + j) 0 ≤ (16 * i + j) * 4294836225 := by
    have := h2 (W[i + j]'(by omega)) (List.getElem_mem _)
    simpa [List.getD_eq_getElem?_getD, show i + j < W.length by omega] using this
  refine ⟨by simp [h1], ?_, ?_⟩
  · intro v hv
    have e : (16 * i + (j + 1)) * 4294836225 = (16 * i + j) * 4294836225 + 4294836225 := by omega
    rcases List.mem_or_eq_of_mem_set hv with hv | hv
    · have h5 := h2 v hv
      rw [e]
      exact Nat.le_trans h5 (Nat.le_add_right _ _)
    · rw [hv, e]
      exact Nat.add_le_add hg hm
  · have hs := valR_set W (i + j) (W.getD (i + j) 0 + x.getD i 0 * y.getD j 0) (by omega)
    rw [takeR_val y j (by omega)]
    rw [Nat.pow_add] at hs
    generalize valR (W.set (i + j) (W.getD (i + j) 0 + x.getD i 0 * y.getD j 0)) = v' at hs ⊢
    rw [h3] at hs
    generalize Bx ^ i = A at *
    generalize Bx ^ j = C at *
    generalize x.getD i 0 = p at *
    generalize y.getD j 0 = q at *
    generalize W.getD (i + j) 0 = g at *
    generalize valR (y.take j) = s at *
    generalize valR (x.take i) * valR y = t at *
    have e1 : A * C * (g + p * q) = A * C * g + A * C * (p * q) := Nat.mul_add _ _ _
    have e2 : p * (s + C * q) * A = p * s * A + A * C * (p * q) := by
      rw [Nat.mul_add, Nat.add_mul]
      congr 1
      rw [Nat.mul_comm (p * (C * q)) A, Nat.mul_left_comm p C q, Nat.mul_assoc]
    omega
theorem mulAt_row {x y W : List Nat} {i : Nat} (hi : i < x.length) (hyl : y.length = 16) (h : mulAt x y W i 16) : mulAt x y W (i + 1) 0 := by
  obtain ⟨h1, h2, h3⟩ := h
  refine ⟨h1, by have e : 16 * (i + 1) + 0 = 16 * i + 16 := by omega
                 rw [e]; exact h2, ?_⟩
  rw [h3, List.take_of_length_le (l := y) (by omega), takeR_val x i hi]
  simp only [List.take_zero, valR, Nat.mul_zero, Nat.zero_mul, Nat.add_zero]
  rw [Nat.add_mul]
  congr 1
  rw [Nat.mul_comm, Nat.mul_assoc]
/-- The digits of the products, put back once. -/
def backR (W : List Nat) : List Nat := addL (W.take 16) ((W.drop 16).map (38 * ·))
theorem backR_length (W : List Nat) (h : W.length = 32) : (backR W).length = 16 := by unfold backR; exact addL_length (by simp [h]) (by simp [h])
theorem backR_get (W : List Nat) (h : W.length = 32) (k : Nat) (hk : k < 16) : (backR W).getD k 0 = W.getD k 0 + 38 * W.getD (k + 16) 0 := by
  unfold backR
  rw [addL_get (by simp [h]) (by simp [h]) k hk]
  simp only [List.getD_eq_getElem?_getD, List.getElem?_map, List.getElem?_drop]
  rw [List.getElem?_take_of_lt hk, Nat.add_comm 16 k, List.getElem?_eq_getElem (show k + 16 < W.length by omega)]
  simp
theorem map38_val : ∀ l : List Nat, valR (l.map (38 * ·)) = 38 * valR l
  | [] => rfl
  | a :: l => by
    simp only [List.map_cons, valR, map38_val l, Nat.mul_add, Nat.mul_left_comm]
theorem backR_val (W : List Nat) (h : W.length = 32) : valR (backR W) % pF = valR W % pF := by
  unfold backR
  rw [addR_val _ _ (by simp [h]), map38_val]
  have e : valR W = valR (W.take 16) + Bx ^ 16 * valR (W.drop 16) := by
    have := valR_append (W.take 16) (W.drop 16)
    rwa [List.take_append_drop, List.length_take_of_le (by omega)] at this
  rw [e, Bx16, Nat.add_mul]
  have : valR (W.take 16) + (2 * pF * valR (W.drop 16) + 38 * valR (W.drop 16)) = valR (W.take 16) + 38 * valR (W.drop 16) + pF * (2 * valR (W.drop 16)) := by
    rw [Nat.mul_comm 2 pF, Nat.mul_assoc]
    omega
  rw [this, Nat.add_mul_mod_self_left]

set_option maxHeartbeats 4000000 in
theorem refMul_any (a b : Nat) (ha : a < pF) (hb : b < pF) (w : World) :
    Calls Try.prog 31 #[.agg (natsC (digR 16 a)), .agg (natsC (digR 16 b))] w (RetV w (.agg (natsC (digR 16 (a * b % pF))))) := by
  obtain ⟨x, hx⟩ : ∃ x, x = digR 16 a := ⟨_, rfl⟩
  obtain ⟨y, hy⟩ : ∃ y, y = digR 16 b := ⟨_, rfl⟩
  have hxl : x.length = 16 := by rw [hx, digR_length]
  have hyl : y.length = 16 := by rw [hy, digR_length]
  have hxb : ∀ k, x.getD k 0 < 65536 := fun k => by rw [hx]; exact digD_lt a k
  have hyb : ∀ k, y.getD k 0 < 65536 := fun k => by rw [hy]; exact digD_lt b k
  have LE : Hid (∀ W, mulAt x y W 16 0 → ∀ w, Calls Try.prog 47 #[.agg (natsC (backR W ++ [0]))] w (RetV w (.agg (natsC (digR 16 (a * b % pF)))))) := fun W hW w => by
    obtain ⟨h1, h2, h3⟩ := hW
    have hzl := backR_length W h1
    have hg : ∀ k, k < 32 → W.getD k 0 ≤ 256 * 4294836225 := fun k hk => by
      have := h2 (W[k]'(by omega)) (List.getElem_mem _)
      simpa [List.getD_eq_getElem?_getD, show k < W.length by omega] using this
    have hzb := with0_lt (backR W) 70368744177664 (getD_of_mem hzl fun k hk => by have := hg k (by omega); have := hg (k + 16) (by omega); rw [backR_get W h1 k hk]; omega) (by omega)
    have h := least_any (backR W ++ [0]) (by simp [hzl]) hzb w
    rw [with0_val _ hzl, backR_val W h1, h3] at h
    simp only [List.take_zero, valR, Nat.mul_zero, Nat.zero_mul, Nat.add_zero] at h
    rw [List.take_of_length_le (by omega), hx, hy, dig_val16 a ha, dig_val16 b hb] at h
    exact h
  rw [← hx, ← hy]
  have HXL := Lib.hid hxl
  have HYL := Lib.hid hyl
  have HXB := Lib.hid hxb
  have HYB := Lib.hid hyb
  have HR : Hid ((digR 16 (a * b % pF)).length = 16) := digR_length 16 _
  generalize digR 16 (a * b % pF) = res at LE HR ⊢
  clear hx hy hxl hyl hxb hyb
  have E0 := Env.start w
  go_enter Try.func31, Try.ntmps31
  go_wp2_with (first
    | ((with_reducible refine wpE_box (o := ⟨some 2, _, _, _, _, _⟩) rfl 51 (.tmp 0) rfl (natsC (x)) (by with_unfolding_all rfl) E0 ?_); intro g1 w1 E1)
    | ((with_reducible refine wpE_box (o := ⟨some 3, _, _, _, _, _⟩) rfl 51 (.tmp 1) rfl (natsC (y)) (by with_unfolding_all rfl) E1 ?_); intro g2 w2 E2)
    | ((with_reducible refine wpE_alloc (o := ⟨some 4, _, _, _, _, _⟩) rfl 51 rfl (natsC (zero16)) Try.zero16 E2 ?_); intro g3 w3 E3)
    | ((with_reducible refine wpE_alloc (o := ⟨some 5, _, _, _, _, _⟩) rfl 91 rfl (natsC (zero32n)) Try.zero32n E3 ?_); intro g4 w4 E4))
  have E5 := Lib.hid E4
  clear E0 E1 E2 E3 E4
  go_loopw [6] (fun i wr => ∃ (k : Nat) (W : List Nat), k ≤ 16 ∧ i = .int .i64 k ∧ mulAt x y W k 0 ∧ Env w [(g4, 91, natsC W), (g3, 51, natsC zero16), (g2, 51, natsC y), (g1, 51, natsC x)] wr) (fun i _ => 16 - (intOf i).toNat)
  case atStart => exact ⟨0, zero32n, by omega, rfl, mulAt_zero x y, E5.out⟩
  case round =>
    clear E5
    obtain ⟨i, W0, hi, rfl, hat0, hE⟩ := hrel
    have E := Lib.hid hE
    have AT := Lib.hid hat0
    clear hE hat0
    by_cases hlt : i < 16
    · have hi5 : (i : Int) < 16 := by omega
      go_wp2
      go_loopw [7] (fun v wr => ∃ (k : Nat) (W : List Nat), k ≤ 16 ∧ v = .int .i64 k ∧ mulAt x y W i k ∧ Env w [(g4, 91, natsC W), (g3, 51, natsC zero16), (g2, 51, natsC y), (g1, 51, natsC x)] wr) (fun v _ => 16 - (intOf v).toNat)
      case atStart => exact ⟨0, W0, by omega, rfl, AT.out, E.out⟩
      case round =>
        clear E AT
        obtain ⟨j, W, hj, rfl, hat, hE⟩ := hrel
        have E := Lib.hid hE
        have AT := Lib.hid hat
        clear hE hat
        by_cases hltj : j < 16
        · have hst := mulAt_step (HXB.out i) (HYB.out j) hlt hltj HYL.out AT.out
          have hwl := AT.out.1
          have hwb : ∀ k, W.getD k 0 ≤ 1099478073600 := fun k => by
            rw [List.getD_eq_getElem?_getD]
            cases hc : W[k]? with
            | none => simp
            | some v =>
              have h1 := AT.out.2.1 v (List.mem_of_getElem? hc)
              have h2 : (16 * i + j) * 4294836225 ≤ 1099478073600 := by omega
              exact Nat.le_trans h1 h2
          have c1 := E.out.getN 0 rfl (i + j) (by rw [hwl]; omega)
          have f1 := E.out.fzN 0 rfl (i + j)
          have c2 := E.out.getN 3 rfl i (by rw [HXL.out]; exact hlt)
          have c3 := E.out.getN 2 rfl j (by rw [HYL.out]; exact hltj)
          have b1 := hwb (i + j)
          have b2 := HXB.out i
          have b3 := HYB.out j
          have hm : x.getD i 0 * y.getD j 0 ≤ 65535 * 65535 := Nat.mul_le_mul (by omega) (by omega)
          have E4 := E.out.drew.cellN 0 rfl (i + j) (W.getD (i + j) 0 + x.getD i 0 * y.getD j 0)
          simp only [List.set_cons_zero] at E4
          have HST := Lib.hid hst
          have HE := Lib.hid E4
          generalize W.set (i + j) (W.getD (i + j) 0 + x.getD i 0 * y.getD j 0) = W' at HST HE
          generalize W.getD (i + j) 0 = g at c1 b1 HE
          generalize x.getD i 0 = p at c2 b2 hm HE
          generalize y.getD j 0 = q at c3 b3 hm HE
          obtain ⟨m, hm2⟩ : ∃ m, m = p * q := ⟨_, rfl⟩
          rw [← hm2] at hm HE
          obtain ⟨s, hs⟩ : ∃ s, s = g + m := ⟨_, rfl⟩
          rw [← hs] at HE
          have a0 : (p : Int) * (q : Int) = (m : Int) := by rw [hm2]; exact (Int.natCast_mul p q).symm
          have a1 : IntKind.u64.wrap (m : Int) = (m : Int) := wrap64 m (by omega)
          have a2 : IntKind.u64.wrap ((g : Int) + (m : Int)) = (s : Int) := by rw [IntKind.wrap_u64]; omega
          have hw1 : IntKind.i64.wrap ((i : Int) + (j : Int)) = (i : Int) + (j : Int) := IntWalk.i64_in _ (by omega)
          have hq0 : 0 ≤ (i : Int) + (j : Int) := by omega
          have hq1 : ((i : Int) + (j : Int)).toNat = i + j := by omega
          have hq2 : (i : Int) + (j : Int) < 32 := by omega
          have hj5 : (j : Int) < 16 := by omega
          clear hm2 hs hst hwl hwb E4 E
          go_wp2_with fail
          go_still_tail 17, (by kernel_rfl)
          change wpList _ _ _ _ _ wr.drew
          have c4 : wr.drew.cell? ⟨g4, i + j, none⟩ = some (.int .u64 (g : Int)) := c1
          have f4 : wr.drew.frozen? ⟨g4, i + j, none⟩ = false := f1
          clear c1 c2 c3 f1 a0 a1 a2 hw1
          go_wp2
          go_roundw
          case rel => exact ⟨j + 1, W', by omega, by go_num, HST.out, HE.out⟩
          case measure => simp [intOf]; omega
        · have hj16 : j = 16 := by omega
          have A2 := AT.out
          rw [hj16] at A2
          have A3 := Lib.hid (mulAt_row (by rw [HXL.out]; exact hlt) HYL.out A2)
          clear A2 hj16
          go_wp2
          go_roundw
          case rel => exact ⟨i + 1, W, by omega, by go_num, A3.out, E.out⟩
          case measure => simp [intOf]; omega
    · have hi16 : i = 16 := by omega
      have A2 := AT.out
      rw [hi16] at A2
      have LW := Lib.hid (LE.out W0 A2)
      have HWL : Hid (W0.length = 32) := A2.1
      have HWB : Hid (∀ k, W0.getD k 0 ≤ 256 * 4294836225) := fun k => by
        rw [List.getD_eq_getElem?_getD]
        cases hc : W0[k]? with
        | none => simp
        | some v => exact A2.2.1 v (List.mem_of_getElem? hc)
      have HBL : Hid ((backR W0).length = 16) := backR_length W0 A2.1
      have HB17 : Hid ((backR W0 ++ [0]).length = 17) := by show _ = _; rw [List.length_append, HBL.out]; rfl
      have HBG := Lib.hid (backR_get W0 A2.1)
      clear A2 hi16
      go_wp2_with (first
        | ((with_reducible refine wpE_alloc (o := ⟨some 8, _, _, _, _, _⟩) rfl 88 rfl (natsC (zero17)) Try.zero17 E.out ?_); intro g5 w5 E6)
        | ((with_reducible refine wpE_store (o := ⟨none, _, _, _, _, _⟩) rfl 88 (.tmp 8) (.tmp 35) rfl 0 g5 88 (natsC (zero17)) (natsC (zero17)) (by with_unfolding_all rfl) (by with_unfolding_all rfl) (by with_unfolding_all exact zero17V) (natsC_same zero17_length zero17_length) (sizeN Try.sz17 _ zero17_length) (natsC_one _) E6 ?_); intro w6 E7; simp only [List.set_cons_zero] at E7))
      have E8 := Lib.hid E7
      clear E6 E7
      go_loopw [9] (fun i wr => ∃ k : Nat, k ≤ 16 ∧ i = .int .i64 k ∧ Env w [(g5, 88, natsC (stP (backR W0 ++ [0]) zero17 k)), (g4, 91, natsC W0), (g3, 51, natsC zero16), (g2, 51, natsC y), (g1, 51, natsC x)] wr) (fun i _ => 16 - (intOf i).toNat)
      case atStart => exact ⟨0, by omega, rfl, by rw [stP_zero]; exact E8.out⟩
      case round =>
        clear E8 E
        obtain ⟨k, hk, rfl, hE⟩ := hrel
        have E := Lib.hid hE
        clear hE
        by_cases hltk : k < 16
        · have c1 := E.out.getN 1 rfl k (by rw [HWL.out]; omega)
          have c2 := E.out.getN 1 rfl (k + 16) (by rw [HWL.out]; omega)
          have c3 := E.out.getN 0 rfl k (by rw [stP_length _ _ HB17.out zero17_length k (by omega)]; omega)
          have f3 := E.out.fzN 0 rfl k
          have hst := stP_step (backR W0 ++ [0]) zero17 HB17.out zero17_length k (by omega)
          rw [with0_get _ HBL.out k hltk, HBG.out k hltk] at hst
          have b1 := HWB.out k
          have b2 := HWB.out (k + 16)
          generalize W0.getD k 0 = xv at c1 b1 hst
          generalize W0.getD (k + 16) 0 = yv at c2 b2 hst
          generalize (stP (backR W0 ++ [0]) zero17 k).getD k 0 = old at c3
          obtain ⟨m, hm⟩ : ∃ s, s = 38 * yv := ⟨_, rfl⟩
          obtain ⟨s, hs⟩ : ∃ s, s = xv + m := ⟨_, rfl⟩
          have a0 : 38 * (yv : Int) = (m : Int) := by omega
          have a1 : IntKind.u64.wrap (m : Int) = (m : Int) := wrap64 m (by omega)
          have a2 : IntKind.u64.wrap ((xv : Int) + (m : Int)) = (s : Int) := by rw [IntKind.wrap_u64]; omega
          have hw1 : IntKind.i64.wrap ((k : Int) + 16) = (k : Int) + 16 := IntWalk.i64_in _ (by omega)
          have hq0 : 0 ≤ (k : Int) + 16 := by omega
          have hq1 : ((k : Int) + 16).toNat = k + 16 := by omega
          have hq2 : (k : Int) + 16 < 32 := by omega
          have hq3 : (k : Int) < 32 := by omega
          have hq4 : (k : Int) < 17 := by omega
          rw [← hm, ← hs] at hst
          have E4 := E.out.drew.cellN 0 rfl k s
          simp only [List.set_cons_zero] at E4
          rw [hst] at E4
          have HE := Lib.hid E4
          clear hm hs hst E4 E
          go_wp2_with fail
          go_still_tail 11, (by kernel_rfl)
          change wpList _ _ _ _ _ wr.drew
          have c4 : wr.drew.cell? ⟨g5, k, none⟩ = some (.int .u64 (old : Int)) := c3
          have f4 : wr.drew.frozen? ⟨g5, k, none⟩ = false := f3
          clear c1 c2 c3 f3 a0 a1 a2 hw1
          go_wp2
          go_roundw
          case rel => exact ⟨k + 1, by omega, by go_num, HE.out⟩
          case measure => simp [intOf]; omega
        · have hk16 : k = 16 := by omega
          have E4 := E.out
          rw [hk16, stP_with0 _ HBL.out] at E4
          have HE := Lib.hid E4
          clear E4 E hk16
          go_wp2_with (first
            | (with_reducible refine wpE_load (o := ⟨some 51, _, _, _, _, _⟩) rfl 88 (.tmp 8) rfl 0 g5 88 (natsC (backR W0 ++ [0])) _ (by with_unfolding_all rfl) (by with_unfolding_all rfl) Try.underlying88 rfl (sizeN Try.sz17 _ HB17.out) HE.out ?_)
            | ((with_reducible refine (LW.out _).mono ?_); rintro e w6 ⟨rfl, b6⟩; have E7 := HE.out.call b6)
            | ((with_reducible refine wpE_store (o := ⟨none, _, _, _, _, _⟩) rfl 51 (.tmp 4) (.tmp 52) rfl 2 g3 51 (natsC (zero16)) (natsC (res)) (by with_unfolding_all rfl) (by with_unfolding_all rfl) (by with_unfolding_all rfl) (natsC_same zero16_length HR.out) (sizeN Try.sz16 _ HR.out) (natsC_one _) E7 ?_); intro w9 E9; simp only [List.set_cons_zero, List.set_cons_succ] at E9))
          exact bodyPost_ret (results_cell_row rfl _ _ g3 51 (natsC (res)) (0, 0) _ rfl (E9.row 2 rfl) Try.underlying51 rfl (sizeN Try.sz16 _ HR.out)) rfl (E9.ret _)
end Go.Proofs.Ytpgjcmccfpjmoaa
end
section
namespace Go.Proofs.Ytpgjcmccfpjmoaa
open Go.RowKit
set_option linter.unusedVariables false
set_option maxRecDepth 20000

/-- What is owed, as the program's word has it: bp, or one less than nothing (bm). -/
def owedN (bp bm : Nat) : Nat := if bm = 1 then 18446744073709551615 else bp
/-- What stands when k digits have been taken away: q; bp is owed, or bm is left over. -/
def subAt (x y q : List Nat) (k bp bm : Nat) : Prop := q.length = k ∧ (∀ v ∈ q, v < 65536) ∧ ((bm = 0 ∧ bp ≤ 2) ∨ (bm = 1 ∧ bp = 0)) ∧ valR (x.take k) + valR (primeL.take k) + bp * Bx ^ k = valR (y.take k) + valR q + bm * Bx ^ k
theorem subAt_zero (x y : List Nat) : subAt x y [] 0 0 0 := ⟨rfl, by simp, by omega, by simp [valR]⟩
theorem subAt_step {x y q : List Nat} {k bp bm n : Nat} (hx : x.getD k 0 < 65536) (hy : y.getD k 0 < 65536) (hk : k < 16) (hxl : x.length = 16) (hyl : y.length = 16) (h : subAt x y q k bp bm) (hn : n + y.getD k 0 + bp = x.getD k 0 + primeL.getD k 0 + 131072 + bm) :
    subAt x y (q ++ [n % 65536]) (k + 1) (2 - n / 65536) (n / 65536 - 2) ∧ n < 262144 ∧ n / 65536 < 4 := by
  obtain ⟨h1, h2, h3, h4⟩ := h
  have hp := primeL_lt k
  have hn4 : n < 262144 := by omega
  refine ⟨⟨by simp [h1], ?_, by omega, ?_⟩, hn4, by omega⟩
  · intro v hv
    rcases List.mem_append.1 hv with hv | hv
    · exact h2 v hv
    · simp at hv; omega
  · rw [takeR_val x k (by omega), takeR_val y k (by omega), takeR_val primeL k (by rw [primeL_length]; omega), valR_append, h1, Nat.pow_succ]
    have e : x.getD k 0 + primeL.getD k 0 + 65536 * (2 - n / 65536) + bm = y.getD k 0 + bp + n % 65536 + 65536 * (n / 65536 - 2) := by omega
    generalize n % 65536 = o at e ⊢
    generalize 2 - n / 65536 = b1 at e ⊢
    generalize n / 65536 - 2 = b2 at e ⊢
    have e2 := congrArg (Bx ^ k * ·) e
    simp only [Nat.mul_add] at e2
    have e3 : valR [o] = o := by simp [valR]
    have e4 : ∀ b, b * (Bx ^ k * Bx) = Bx ^ k * (65536 * b) := fun b => by rw [Nat.mul_comm b, Nat.mul_assoc]; rfl
    rw [e3, e4, e4]
    have e5 : bp * Bx ^ k = Bx ^ k * bp := Nat.mul_comm _ _
    have e6 : bm * Bx ^ k = Bx ^ k * bm := Nat.mul_comm _ _
    omega
theorem primeL16 : valR (primeL.take 16) = pF := by decide +kernel
theorem sub_done {a b : Nat} {q : List Nat} {bp bm : Nat} (ha : a < pF) (hb : b < pF) (h : subAt (digR 16 a) (digR 16 b) q 16 bp bm) : q.length = 16 ∧ (∀ v ∈ q, v < 65536) ∧ valR q % pF = subF a b := by
  obtain ⟨h1, h2, h3, h4⟩ := h
  refine ⟨h1, h2, ?_⟩
  have hq := valR_lt q h2
  rw [h1] at hq
  rw [List.take_of_length_le (l := digR 16 a) (by rw [digR_length]; omega), List.take_of_length_le (l := digR 16 b) (by rw [digR_length]; omega), primeL16, dig_val16 a ha, dig_val16 b hb] at h4
  have hT := Bx16
  have e : valR q + b = a + pF := by
    generalize Bx ^ 16 = T at *
    rcases h3 with ⟨rfl, h3⟩ | ⟨rfl, rfl⟩
    · rcases (show bp = 0 ∨ bp = 1 ∨ bp = 2 by omega) with rfl | rfl | rfl <;> omega
    · omega
  unfold subF
  rw [show valR q = a + (pF - b) by omega]

set_option maxHeartbeats 4000000 in
theorem refSub_any (a b : Nat) (ha : a < pF) (hb : b < pF) (w : World) :
    Calls Try.prog 30 #[.agg (natsC (digR 16 a)), .agg (natsC (digR 16 b))] w (RetV w (.agg (natsC (digR 16 (subF a b))))) := by
  obtain ⟨x, hx⟩ : ∃ x, x = digR 16 a := ⟨_, rfl⟩
  obtain ⟨y, hy⟩ : ∃ y, y = digR 16 b := ⟨_, rfl⟩
  have hxl : x.length = 16 := by rw [hx, digR_length]
  have hyl : y.length = 16 := by rw [hy, digR_length]
  have hxb : ∀ k, x.getD k 0 < 65536 := fun k => by rw [hx]; exact digD_lt a k
  have hyb : ∀ k, y.getD k 0 < 65536 := fun k => by rw [hy]; exact digD_lt b k
  have LE : Hid (∀ q bp bm, subAt x y q 16 bp bm → ∀ w, Calls Try.prog 47 #[.agg (natsC (q ++ [0]))] w (RetV w (.agg (natsC (digR 16 (subF a b)))))) := fun q bp bm hq w => by
    rw [hx, hy] at hq
    obtain ⟨h1, h2, h3⟩ := sub_done ha hb hq
    have h := least_any (q ++ [0]) (by simp [h1]) (with0_lt q 70368744177664 (fun v hv => Nat.lt_trans (h2 v hv) (by decide)) (by omega)) w
    rwa [with0_val _ h1, h3] at h
  rw [← hx, ← hy]
  have HXL := Lib.hid hxl
  have HYL := Lib.hid hyl
  have HXB := Lib.hid hxb
  have HYB := Lib.hid hyb
  have HR : Hid ((digR 16 (subF a b)).length = 16) := digR_length 16 _
  generalize digR 16 (subF a b) = res at LE HR ⊢
  clear hx hy hxl hyl hxb hyb
  have E0 := Env.start w
  go_enter Try.func30, Try.ntmps30
  go_wp2_with (first
    | ((with_reducible refine wpE_box (o := ⟨some 2, _, _, _, _, _⟩) rfl 51 (.tmp 0) rfl (natsC (x)) (by with_unfolding_all rfl) E0 ?_); intro g1 w1 E1)
    | ((with_reducible refine wpE_box (o := ⟨some 3, _, _, _, _, _⟩) rfl 51 (.tmp 1) rfl (natsC (y)) (by with_unfolding_all rfl) E1 ?_); intro g2 w2 E2)
    | ((with_reducible refine wpE_alloc (o := ⟨some 4, _, _, _, _, _⟩) rfl 51 rfl (natsC (zero16)) Try.zero16 E2 ?_); intro g3 w3 E3)
    | ((with_reducible refine wpE_alloc (o := ⟨some 5, _, _, _, _, _⟩) rfl 88 rfl (natsC (zero17)) Try.zero17 E3 ?_); intro g4 w4 E4)
    | ((with_reducible refine wpE_store (o := ⟨none, _, _, _, _, _⟩) rfl 88 (.tmp 5) (.tmp 9) rfl 0 g4 88 (natsC (zero17)) (natsC (zero17)) (by with_unfolding_all rfl) (by with_unfolding_all rfl) (by with_unfolding_all exact zero17V) (natsC_same zero17_length zero17_length) (sizeN Try.sz17 _ zero17_length) (natsC_one _) E4 ?_); intro w5 E5; simp only [List.set_cons_zero] at E5))
  have E6 := Lib.hid E5
  clear E0 E1 E2 E3 E4 E5
  go_loopw [6, 7] (fun c i wr => ∃ (k bp bm : Nat) (q : List Nat), k ≤ 16 ∧ i = .int .i64 k ∧ c = .int .u64 ((owedN bp bm : Nat) : Int) ∧ subAt x y q k bp bm ∧ Env w [(g4, 88, natsC (q ++ List.replicate (17 - k) 0)), (g3, 51, natsC zero16), (g2, 51, natsC y), (g1, 51, natsC x)] wr) (fun _ i _ => 16 - (intOf i).toNat)
  case atStart => exact ⟨0, 0, 0, [], by omega, rfl, rfl, subAt_zero x y, E6.out⟩
  case round =>
    clear E6
    obtain ⟨k, bp, bm, q, hk, rfl, rfl, hat, hE⟩ := hrel
    have E := Lib.hid hE
    have AT := Lib.hid hat
    clear hE hat
    by_cases hlt : k < 16
    · have PR := Lib.hid (fun w => prime_any k (by omega) w)
      have hb3 := AT.out.2.2.1
      have b1 := HXB.out k
      have b2 := HYB.out k
      have hp := primeL_lt k
      obtain ⟨n, hn⟩ : ∃ n, n = x.getD k 0 + primeL.getD k 0 + 131072 + bm - y.getD k 0 - bp := ⟨_, rfl⟩
      obtain ⟨hst, hn4, hn3⟩ := subAt_step (HXB.out k) (HYB.out k) hlt HXL.out HYL.out AT.out (show n + y.getD k 0 + bp = x.getD k 0 + primeL.getD k 0 + 131072 + bm by omega)
      have hx2 : ∃ v, v = x.getD k 0 := ⟨_, rfl⟩
      obtain ⟨xv, hxv⟩ := hx2
      have hy2 : ∃ v, v = y.getD k 0 := ⟨_, rfl⟩
      obtain ⟨yv, hyv⟩ := hy2
      have HXV := Lib.hid hxv
      have HYV := Lib.hid hyv
      rw [← hxv] at hn b1
      rw [← hyv] at hn b2
      generalize primeL.getD k 0 = p at hn hp PR
      obtain ⟨ow, how⟩ : ∃ v, v = owedN bp bm := ⟨_, rfl⟩
      have how2 : (bm = 0 ∧ ow = bp) ∨ (bm = 1 ∧ ow = 18446744073709551615) := by
        rw [how]
        unfold owedN
        rcases hb3 with ⟨rfl, _⟩ | ⟨rfl, rfl⟩
        · exact .inl ⟨rfl, by simp⟩
        · exact .inr ⟨rfl, by simp⟩
      rw [← how]
      obtain ⟨s1, hs1⟩ : ∃ v, v = xv + p := ⟨_, rfl⟩
      obtain ⟨s2, hs2⟩ : ∃ v, v = s1 + 131072 := ⟨_, rfl⟩
      obtain ⟨s3, hs3⟩ : ∃ v, v = s2 - yv := ⟨_, rfl⟩
      have a1 : IntKind.u64.wrap ((xv : Int) + (p : Int)) = (s1 : Int) := by rw [IntKind.wrap_u64]; omega
      have a2 : IntKind.u64.wrap ((s1 : Int) + 131072) = (s2 : Int) := by rw [IntKind.wrap_u64]; omega
      have a3 : IntKind.u64.wrap ((s2 : Int) - (yv : Int)) = (s3 : Int) := by rw [IntKind.wrap_u64]; omega
      have a4 : IntKind.u64.wrap ((s3 : Int) - (ow : Int)) = (n : Int) := by rw [IntKind.wrap_u64]; omega
      obtain ⟨r, hr⟩ : ∃ v, v = n % 65536 := ⟨_, rfl⟩
      obtain ⟨u, hu⟩ : ∃ v, v = n / 65536 := ⟨_, rfl⟩
      obtain ⟨ow2, how3⟩ : ∃ v, v = owedN (2 - u) (u - 2) := ⟨_, rfl⟩
      have how4 : (u ≤ 2 ∧ ow2 = 2 - u) ∨ (u = 3 ∧ ow2 = 18446744073709551615) := by
        rw [how3]
        unfold owedN
        rcases (show u = 0 ∨ u = 1 ∨ u = 2 ∨ u = 3 by omega) with rfl | rfl | rfl | rfl <;> simp
      have d1 : (n : Int) % 65536 = (r : Int) := by omega
      have d2 : (n : Int) / 65536 = (u : Int) := by omega
      have d3 : IntKind.u64.wrap (2 - (u : Int)) = (ow2 : Int) := by rw [IntKind.wrap_u64]; omega
      have d4 : IntKind.u64.wrap (u : Int) = (u : Int) := wrap64 u (by omega)
      rw [← hr, ← hu] at hst
      have HST := Lib.hid hst
      have HO := Lib.hid how3
      have hql := AT.out.1
      have hset : (q ++ List.replicate (17 - k) 0).set k r = q ++ [r] ++ List.replicate (17 - (k + 1)) 0 := by
        rw [List.set_append_right _ _ (by omega), hql, Nat.sub_self, show 17 - k = (17 - (k + 1)) + 1 by omega, List.replicate_succ, List.set_cons_zero, List.append_assoc]
        rfl
      have HSET := Lib.hid hset
      have HQL : Hid ((q ++ List.replicate (17 - k) 0).length = 17) := by show _ = _; rw [List.length_append, List.length_replicate, hql]; omega
      have hk5 : (k : Int) < 16 := by omega
      have hk6 : (k : Int) < 17 := by omega
      clear hs1 hs2 hs3 hr hu how how2 how3 how4 hst hset hql hn hn4 hn3 hxv hyv hb3 b1 b2 hp
      go_wp2_with fail
      refine region_class _ E.out.drew (by kernel_rfl) (by kernel_rfl) ?_
      refine q_run (by rfl) (v := .int .i64 (k : Int)) (fun W _ => by go_simp) ?_
      simp only [Act.put, List.setIfInBounds_toArray, List.set_cons_zero, List.set_cons_succ]
      refine q_run (by rfl) (v := .pointer (some ⟨g1, k, none⟩)) (fun W _ => by go_simp) ?_
      simp only [Act.put, List.setIfInBounds_toArray, List.set_cons_zero, List.set_cons_succ]
      refine q_run (by rfl) (v := .int .u64 (xv : Int)) (fun W hW => by have hc := hW.getN 3 rfl k (by rw [HXL.out]; exact hlt); rw [← HXV.out] at hc; clear hW; go_simp) ?_
      simp only [Act.put, List.setIfInBounds_toArray, List.set_cons_zero, List.set_cons_succ]
      refine q_run (by rfl) (v := .int .i64 (k : Int)) (fun W _ => by go_simp) ?_
      simp only [Act.put, List.setIfInBounds_toArray, List.set_cons_zero, List.set_cons_succ]
      refine q_call (by rfl) 48 _ (fun W => by go_simp) (fun W hW => hW.callsQ (PR.out W)) ?_
      simp only [Act.put, List.setIfInBounds_toArray, List.set_cons_zero, List.set_cons_succ]
      refine q_run (by rfl) (v := .int .u64 (s1 : Int)) (fun W _ => by go_simp) ?_
      simp only [Act.put, List.setIfInBounds_toArray, List.set_cons_zero, List.set_cons_succ]
      refine q_run (by rfl) (v := .int .u64 (s2 : Int)) (fun W _ => by go_simp) ?_
      simp only [Act.put, List.setIfInBounds_toArray, List.set_cons_zero, List.set_cons_succ]
      refine q_run (by rfl) (v := .int .i64 (k : Int)) (fun W _ => by go_simp) ?_
      simp only [Act.put, List.setIfInBounds_toArray, List.set_cons_zero, List.set_cons_succ]
      refine q_run (by rfl) (v := .pointer (some ⟨g2, k, none⟩)) (fun W _ => by go_simp) ?_
      simp only [Act.put, List.setIfInBounds_toArray, List.set_cons_zero, List.set_cons_succ]
      refine q_run (by rfl) (v := .int .u64 (yv : Int)) (fun W hW => by have hc := hW.getN 2 rfl k (by rw [HYL.out]; exact hlt); rw [← HYV.out] at hc; clear hW; go_simp) ?_
      simp only [Act.put, List.setIfInBounds_toArray, List.set_cons_zero, List.set_cons_succ]
      refine q_run (by rfl) (v := .int .u64 (s3 : Int)) (fun W _ => by go_simp) ?_
      simp only [Act.put, List.setIfInBounds_toArray, List.set_cons_zero, List.set_cons_succ]
      refine q_run (by rfl) (v := .int .u64 (ow : Int)) (fun W _ => by go_simp) ?_
      simp only [Act.put, List.setIfInBounds_toArray, List.set_cons_zero, List.set_cons_succ]
      refine q_run (by rfl) (v := .int .u64 (n : Int)) (fun W _ => by go_simp) ?_
      simp only [Act.put, List.setIfInBounds_toArray, List.set_cons_zero, List.set_cons_succ]
      refine q_run (by rfl) (v := .int .u64 (n : Int)) (fun W _ => by go_simp) ?_
      simp only [Act.put, List.setIfInBounds_toArray, List.set_cons_zero, List.set_cons_succ]
      refine wpQuiet_nil ?_
      intro w6 E6
      have c1 := E6.getN 0 rfl k (by rw [HQL.out]; omega)
      have f1 := E6.fzN 0 rfl k
      generalize (q ++ List.replicate (17 - k) 0).getD k 0 = old at c1
      have E7 := E6.cellN 0 rfl k r
      simp only [List.set_cons_zero] at E7
      rw [HSET.out] at E7
      have HE := Lib.hid E7
      clear E7 E6 a1 a2 a3 a4
      go_wp2
      go_roundw
      case rel => exact ⟨k + 1, 2 - u, u - 2, q ++ [r], by omega, by go_num, by rw [HO.out], HST.out, HE.out⟩
      case measure => simp [intOf]; omega
    · have hk16 : k = 16 := by omega
      have E2 := E.out
      have A2 := AT.out
      rw [hk16] at A2
      rw [hk16, show List.replicate (17 - 16) (0 : Nat) = [0] from rfl] at E2
      have HE := Lib.hid E2
      have LQ := Lib.hid (LE.out q bp bm A2)
      have HQL : Hid ((q ++ [0]).length = 17) := by show _ = _; rw [List.length_append, A2.1]; rfl
      generalize owedN bp bm = ow
      clear A2 E2 E hk16 AT
      go_wp2_with (first
        | (with_reducible refine wpE_load (o := ⟨some 34, _, _, _, _, _⟩) rfl 88 (.tmp 5) rfl 0 g4 88 (natsC (q ++ [0])) _ (by with_unfolding_all rfl) (by with_unfolding_all rfl) Try.underlying88 rfl (sizeN Try.sz17 _ HQL.out) HE.out ?_)
        | ((with_reducible refine (LQ.out _).mono ?_); rintro e w6 ⟨rfl, b6⟩; have E7 := HE.out.call b6)
        | ((with_reducible refine wpE_store (o := ⟨none, _, _, _, _, _⟩) rfl 51 (.tmp 4) (.tmp 35) rfl 1 g3 51 (natsC (zero16)) (natsC (res)) (by with_unfolding_all rfl) (by with_unfolding_all rfl) (by with_unfolding_all rfl) (natsC_same zero16_length HR.out) (sizeN Try.sz16 _ HR.out) (natsC_one _) E7 ?_); intro w9 E9; simp only [List.set_cons_zero, List.set_cons_succ] at E9))
      exact bodyPost_ret (results_cell_row rfl _ _ g3 51 (natsC (res)) (0, 0) _ rfl (E9.row 1 rfl) Try.underlying51 rfl (sizeN Try.sz16 _ HR.out)) rfl (E9.ret _)
end Go.Proofs.Ytpgjcmccfpjmoaa
end
section
namespace Go.Proofs.Ytpgjcmccfpjmoaa
open Go.RowKit
set_option linter.unusedVariables false
set_option maxRecDepth 20000

theorem pow_twice (a e : Nat) : powF a e * powF a e % pF = powF a (2 * e) := by rw [powF_mul, Nat.two_mul]
theorem pow_more (a e : Nat) (ha : a < pF) : powF a e * a % pF = powF a (e + 1) := by
  have h := powF_mul a e 1
  rwa [powF_one a ha] at h
theorem half_next (n m : Nat) : n / 2 ^ m = 2 * (n / 2 ^ (m + 1)) + n / 2 ^ m % 2 := by
  rw [Nat.pow_succ, ← Nat.div_div_eq_div_mul]
  omega
theorem and_one (q : Nat) (h : q < 18446744073709551616) : bits .and .u64 (q : Int) 1 = ((q % 2 : Nat) : Int) := by
  have h1 := u64_and_nat q 1 h (by omega)
  rw [show ((1 : Nat) : Int) = 1 from rfl] at h1
  rw [h1]
  congr 1
  exact Nat.and_one_is_mod q

theorem inv_bits : ∀ m, m < 255 → (pF - 2) / 2 ^ m % 2 = if m = 2 ∨ m = 4 then 0 else 1 := by
  intro m hm
  have h : ((List.range 255).all fun m => (pF - 2) / 2 ^ m % 2 == if m = 2 ∨ m = 4 then 0 else 1) = true := by decide +kernel
  exact beq_iff_eq.1 (List.all_eq_true.1 h m (List.mem_range.2 hm))
set_option maxHeartbeats 4000000 in
theorem refInvert_any (a : Nat) (ha : a < pF) (w : World) :
    Calls Try.prog 33 #[.agg (natsC (digR 16 a))] w (RetV w (.agg (natsC (digR 16 (powF a (pF - 2)))))) := by
  have HO : Hid (∀ w, Calls Try.prog 28 #[.int .u64 1] w (RetV w (.agg (natsC (digR 16 1))))) := fun w => refSmall_any 1 (by omega) w
  have HM : Hid (∀ e w, Calls Try.prog 31 #[.agg (natsC (digR 16 (powF a e))), .agg (natsC (digR 16 (powF a e)))] w (RetV w (.agg (natsC (digR 16 (powF a (2 * e))))))) := fun e w => by
    have h := refMul_any (powF a e) (powF a e) (powF_lt _ _) (powF_lt _ _) w
    rwa [pow_twice] at h
  have HX : Hid (∀ e w, Calls Try.prog 31 #[.agg (natsC (digR 16 (powF a e))), .agg (natsC (digR 16 a))] w (RetV w (.agg (natsC (digR 16 (powF a (e + 1))))))) := fun e w => by
    have h := refMul_any (powF a e) a (powF_lt _ _) ha w
    rwa [pow_more a e ha] at h
  have HBIT := Lib.hid inv_bits
  have HZ : Hid ((pF - 2) / 2 ^ 255 = 0) := by show _ = _; decide +kernel
  obtain ⟨N, hN⟩ : ∃ N, N = pF - 2 := ⟨_, rfl⟩
  rw [← hN] at HBIT HZ ⊢
  clear hN
  have H0 : Hid (digR 16 1 = digR 16 (powF a (N / 2 ^ 255))) := by
    show _ = _
    rw [HZ.out]
    unfold powF
    rw [Nat.pow_zero, Nat.mod_eq_of_lt (by decide)]
  clear ha
  have E0 := Env.start w
  go_enter Try.func33, Try.ntmps33
  go_wp2_with (first
    | ((with_reducible refine wpE_box (o := ⟨some 1, _, _, _, _, _⟩) rfl 51 (.tmp 0) rfl (natsC (digR 16 a)) (by with_unfolding_all rfl) E0 ?_); intro g1 w1 E1)
    | ((with_reducible refine wpE_alloc (o := ⟨some 2, _, _, _, _, _⟩) rfl 51 rfl (natsC (zero16)) Try.zero16 E1 ?_); intro g2 w2 E2)
    | ((with_reducible refine (HO.out _).mono ?_); rintro e w3 ⟨rfl, b_w3⟩; have E3 := E2.call b_w3; clear b_w3)
    | ((with_reducible refine wpE_alloc (o := ⟨some 3, _, _, _, _, _⟩) rfl 51 rfl (natsC (zero16)) Try.zero16 E3 ?_); intro g3 w4 E4)
    | ((with_reducible refine wpE_store (o := ⟨none, _, _, _, _, _⟩) rfl 51 (.tmp 3) (.tmp 5) rfl 0 g3 51 (natsC (zero16)) (natsC (digR 16 1)) (by with_unfolding_all rfl) (by with_unfolding_all rfl) (by with_unfolding_all rfl) (natsC_same zero16_length (digR_length 16 _)) (sizeN Try.sz16 _ (digR_length 16 _)) (natsC_one _) E4 ?_); intro w5 E5; simp only [List.set_cons_zero] at E5))
  rw [H0.out] at E5
  have E6 := Lib.hid E5
  clear E0 E1 E2 E3 E4 E5
  go_loopw [4] (fun i wr => ∃ k : Nat, k ≤ 255 ∧ i = .int .i64 ((k : Int) - 1) ∧ Env w [(g3, 51, natsC (digR 16 (powF a (N / 2 ^ k)))), (g2, 51, natsC zero16), (g1, 51, natsC (digR 16 a))] wr) (fun i _ => (intOf i + 1).toNat)
  case atStart => exact ⟨255, by omega, rfl, E6.out⟩
  case round =>
    clear E6
    obtain ⟨k, hk, rfl, hE⟩ := hrel
    have E := Lib.hid hE
    clear hE
    rcases k with _ | m
    · have E4 := E.out
      rw [Nat.pow_zero, Nat.div_one] at E4
      have HE := Lib.hid E4
      clear E4 E
      go_wp2_with (first
        | (with_reducible refine wpE_load (o := ⟨some 22, _, _, _, _, _⟩) rfl 51 (.tmp 3) rfl 0 g3 51 (natsC (digR 16 (powF a N))) _ (by with_unfolding_all rfl) (by with_unfolding_all rfl) Try.underlying51 rfl (sizeN Try.sz16 _ (digR_length 16 _)) HE.out ?_)
        | ((with_reducible refine wpE_store (o := ⟨none, _, _, _, _, _⟩) rfl 51 (.tmp 2) (.tmp 22) rfl 1 g2 51 (natsC (zero16)) (natsC (digR 16 (powF a N))) (by with_unfolding_all rfl) (by with_unfolding_all rfl) (by with_unfolding_all rfl) (natsC_same zero16_length (digR_length 16 _)) (sizeN Try.sz16 _ (digR_length 16 _)) (natsC_one _) HE.out ?_); intro w9 E9; simp only [List.set_cons_zero, List.set_cons_succ] at E9))
      exact bodyPost_ret (results_cell_row rfl _ _ g2 51 (natsC (digR 16 (powF a N))) (0, 0) _ rfl (E9.row 1 rfl) Try.underlying51 rfl (sizeN Try.sz16 _ (digR_length 16 _))) rfl (E9.ret _)
    · have hhalf := half_next N m
      have hi0 : ((m + 1 : Nat) : Int) - 1 = (m : Int) := by omega
      rw [hi0]
      have hm0 : (0 : Int) ≤ (m : Int) := by omega
      have E4 := E.out
      obtain ⟨e, he⟩ : ∃ e, e = N / 2 ^ (m + 1) := ⟨_, rfl⟩
      rw [← he] at E4 hhalf
      have E5 := Lib.hid E4
      have HH := Lib.hid hhalf
      clear he hi0 E4 E hhalf
      have hbit := HBIT.out m (by omega)
      by_cases h2 : m = 2
      · have HB : Hid (N / 2 ^ m = 2 * e) := by show _ = _; rw [HH.out, hbit, if_pos (.inl h2)]; rfl
        have t2 : ((m : Int) != 2) = false := by simp; omega
        clear h2 hbit
        go_wp2_with (first
          | (with_reducible refine wpE_load (o := ⟨some 10, _, _, _, _, _⟩) rfl 51 (.tmp 3) rfl 0 g3 51 (natsC (digR 16 (powF a e))) _ (by with_unfolding_all rfl) (by with_unfolding_all rfl) Try.underlying51 rfl (sizeN Try.sz16 _ (digR_length 16 _)) E5.out ?_)
          | (with_reducible refine wpE_load (o := ⟨some 11, _, _, _, _, _⟩) rfl 51 (.tmp 3) rfl 0 g3 51 (natsC (digR 16 (powF a e))) _ (by with_unfolding_all rfl) (by with_unfolding_all rfl) Try.underlying51 rfl (sizeN Try.sz16 _ (digR_length 16 _)) E5.out ?_)
          | ((with_reducible refine (HM.out e _).mono ?_); rintro e1 w6 ⟨rfl, b6⟩; have E7 := Lib.hid (E5.out.call b6); clear b6)
          | ((with_reducible refine wpE_store (o := ⟨none, _, _, _, _, _⟩) rfl 51 (.tmp 3) (.tmp 12) rfl 0 g3 51 (natsC (digR 16 (powF a e))) (natsC (digR 16 (powF a (2 * e)))) (by with_unfolding_all rfl) (by with_unfolding_all rfl) (by with_unfolding_all rfl) (natsC_same (digR_length 16 _) (digR_length 16 _)) (sizeN Try.sz16 _ (digR_length 16 _)) (natsC_one _) E7.out ?_); intro w8 E8; simp only [List.set_cons_zero] at E8))
        go_roundw
        case rel => exact ⟨m, by omega, rfl, by rw [HB.out]; exact E8⟩
        case measure => simp [intOf]
      · have t2 : ((m : Int) != 2) = true := by simp; omega
        by_cases h4 : m = 4
        · have HB : Hid (N / 2 ^ m = 2 * e) := by show _ = _; rw [HH.out, hbit, if_pos (.inr h4)]; rfl
          have t4 : ((m : Int) != 4) = false := by simp; omega
          clear h2 h4 hbit
          go_wp2_with (first
            | (with_reducible refine wpE_load (o := ⟨some 10, _, _, _, _, _⟩) rfl 51 (.tmp 3) rfl 0 g3 51 (natsC (digR 16 (powF a e))) _ (by with_unfolding_all rfl) (by with_unfolding_all rfl) Try.underlying51 rfl (sizeN Try.sz16 _ (digR_length 16 _)) E5.out ?_)
            | (with_reducible refine wpE_load (o := ⟨some 11, _, _, _, _, _⟩) rfl 51 (.tmp 3) rfl 0 g3 51 (natsC (digR 16 (powF a e))) _ (by with_unfolding_all rfl) (by with_unfolding_all rfl) Try.underlying51 rfl (sizeN Try.sz16 _ (digR_length 16 _)) E5.out ?_)
            | ((with_reducible refine (HM.out e _).mono ?_); rintro e1 w6 ⟨rfl, b6⟩; have E7 := Lib.hid (E5.out.call b6); clear b6)
            | ((with_reducible refine wpE_store (o := ⟨none, _, _, _, _, _⟩) rfl 51 (.tmp 3) (.tmp 12) rfl 0 g3 51 (natsC (digR 16 (powF a e))) (natsC (digR 16 (powF a (2 * e)))) (by with_unfolding_all rfl) (by with_unfolding_all rfl) (by with_unfolding_all rfl) (natsC_same (digR_length 16 _) (digR_length 16 _)) (sizeN Try.sz16 _ (digR_length 16 _)) (natsC_one _) E7.out ?_); intro w8 E8; simp only [List.set_cons_zero] at E8))
          go_roundw
          case rel => exact ⟨m, by omega, rfl, by rw [HB.out]; exact E8⟩
          case measure => simp [intOf]
        · have HB : Hid (N / 2 ^ m = 2 * e + 1) := by show _ = _; rw [HH.out, hbit, if_neg (by omega)]
          have t4 : ((m : Int) != 4) = true := by simp; omega
          clear h2 h4 hbit
          go_wp2_with (first
            | (with_reducible refine wpE_load (o := ⟨some 10, _, _, _, _, _⟩) rfl 51 (.tmp 3) rfl 0 g3 51 (natsC (digR 16 (powF a e))) _ (by with_unfolding_all rfl) (by with_unfolding_all rfl) Try.underlying51 rfl (sizeN Try.sz16 _ (digR_length 16 _)) E5.out ?_)
            | (with_reducible refine wpE_load (o := ⟨some 11, _, _, _, _, _⟩) rfl 51 (.tmp 3) rfl 0 g3 51 (natsC (digR 16 (powF a e))) _ (by with_unfolding_all rfl) (by with_unfolding_all rfl) Try.underlying51 rfl (sizeN Try.sz16 _ (digR_length 16 _)) E5.out ?_)
            | ((with_reducible refine (HM.out e _).mono ?_); rintro e1 w6 ⟨rfl, b6⟩; have E7 := Lib.hid (E5.out.call b6); clear b6)
            | ((with_reducible refine wpE_store (o := ⟨none, _, _, _, _, _⟩) rfl 51 (.tmp 3) (.tmp 12) rfl 0 g3 51 (natsC (digR 16 (powF a e))) (natsC (digR 16 (powF a (2 * e)))) (by with_unfolding_all rfl) (by with_unfolding_all rfl) (by with_unfolding_all rfl) (natsC_same (digR_length 16 _) (digR_length 16 _)) (sizeN Try.sz16 _ (digR_length 16 _)) (natsC_one _) E7.out ?_); intro w8 E8; simp only [List.set_cons_zero] at E8)
            | (with_reducible refine wpE_load (o := ⟨some 19, _, _, _, _, _⟩) rfl 51 (.tmp 3) rfl 0 g3 51 (natsC (digR 16 (powF a (2 * e)))) _ (by with_unfolding_all rfl) (by with_unfolding_all rfl) Try.underlying51 rfl (sizeN Try.sz16 _ (digR_length 16 _)) E8 ?_)
            | (with_reducible refine wpE_load (o := ⟨some 20, _, _, _, _, _⟩) rfl 51 (.tmp 1) rfl 2 g1 51 (natsC (digR 16 a)) _ (by with_unfolding_all rfl) (by with_unfolding_all rfl) Try.underlying51 rfl (sizeN Try.sz16 _ (digR_length 16 _)) E8 ?_)
            | ((with_reducible refine (HX.out (2 * e) _).mono ?_); rintro e2 w10 ⟨rfl, b10⟩; have E11 := Lib.hid (E8.call b10); clear b10)
            | ((with_reducible refine wpE_store (o := ⟨none, _, _, _, _, _⟩) rfl 51 (.tmp 3) (.tmp 21) rfl 0 g3 51 (natsC (digR 16 (powF a (2 * e)))) (natsC (digR 16 (powF a (2 * e + 1)))) (by with_unfolding_all rfl) (by with_unfolding_all rfl) (by with_unfolding_all rfl) (natsC_same (digR_length 16 _) (digR_length 16 _)) (sizeN Try.sz16 _ (digR_length 16 _)) (natsC_one _) E11.out ?_); intro w12 E12; simp only [List.set_cons_zero] at E12))
          go_roundw
          case rel => exact ⟨m, by omega, rfl, by rw [HB.out]; exact E12⟩
          case measure => simp [intOf]
end Go.Proofs.Ytpgjcmccfpjmoaa
end
section
namespace Go.Proofs.Ytpgjcmccfpjmoaa
open Go.RowKit
set_option linter.unusedVariables false
set_option maxRecDepth 20000

theorem digR_get (a : Nat) : ∀ (n k : Nat), k < n → (digR n a).getD k 0 = a / Bx ^ k % Bx := by
  intro n
  induction n generalizing a with
  | zero => intro k h; omega
  | succ n ih =>
    intro k h
    cases k with
    | zero => simp [digR]
    | succ k =>
      rw [digR, List.getD_cons_succ, ih _ _ (by omega), Nat.div_div_eq_div_mul, Nat.pow_succ, Nat.mul_comm]
theorem low_byte (a k : Nat) (hk : k < 16) : (byteN a (2 * k)).toNat = (digR 16 a).getD k 0 % 256 := by
  rw [digR_get a 16 k hk, byteN_toNat, Nat.pow_mul]
  show a / 65536 ^ k % 256 = a / 65536 ^ k % 65536 % 256
  omega
theorem high_byte (a k : Nat) (hk : k < 16) : (byteN a (2 * k + 1)).toNat = (digR 16 a).getD k 0 / 256 := by
  rw [digR_get a 16 k hk, byteN_toNat, Nat.pow_succ, Nat.pow_mul, ← Nat.div_div_eq_div_mul]
  show a / 65536 ^ k / 256 % 256 = a / 65536 ^ k % 65536 / 256
  omega

set_option maxHeartbeats 2000000 in
theorem refKey_any (a : Nat) (w : World) : Calls Try.prog 32 #[.agg (natsC (digR 16 a))] w (RetV w (.agg (keyC (lowB a 32)))) := by
  have HL : Hid ((digR 16 a).length = 16) := digR_length 16 a
  have HLB : Hid (∀ k, k < 16 → (byteN a (2 * k)).toNat = (digR 16 a).getD k 0 % 256) := fun k hk => low_byte a k hk
  have HHB : Hid (∀ k, k < 16 → (byteN a (2 * k + 1)).toNat = (digR 16 a).getD k 0 / 256) := fun k hk => high_byte a k hk
  have HDB : Hid (∀ k, (digR 16 a).getD k 0 < 65536) := fun k => digD_lt a k
  have E0 := Env.start w
  go_enter Try.func32, Try.ntmps32
  go_wp2_with (first
    | ((with_reducible refine wpE_box (o := ⟨some 1, _, _, _, _, _⟩) rfl 51 (.tmp 0) rfl (natsC (digR 16 a)) (by with_unfolding_all rfl) E0 ?_); intro g1 w1 E1)
    | ((with_reducible refine wpE_alloc (o := ⟨some 2, _, _, _, _, _⟩) rfl 23 rfl (keyC (zeroKey)) Try.zeroK E1 ?_); intro g2 w2 E2)
    | ((with_reducible refine wpE_alloc (o := ⟨some 3, _, _, _, _, _⟩) rfl 23 rfl (keyC (zeroKey)) Try.zeroK E2 ?_); intro g3 w3 E3)
    | ((with_reducible refine wpE_store (o := ⟨none, _, _, _, _, _⟩) rfl 23 (.tmp 3) (.tmp 5) rfl 0 g3 23 (keyC (zeroKey)) (keyC (zeroKey)) (by with_unfolding_all rfl) (by with_unfolding_all rfl) (by with_unfolding_all exact congrArg Value.agg zeroLit) (keyC_same zeroKey_length zeroKey_length) (Try.sizeKey _ zeroKey_length) (keyC_one _) E3 ?_); intro w4 E4; simp only [List.set_cons_zero] at E4))
  have E5 := Lib.hid E4
  clear E0 E1 E2 E3 E4
  go_loopw [4] (fun i wr => ∃ k : Nat, k ≤ 16 ∧ i = .int .i64 k ∧ Env w [(g3, 23, keyC (fillB (lowB a (2 * k)) 32)), (g2, 23, keyC zeroKey), (g1, 51, natsC (digR 16 a))] wr) (fun i _ => 16 - (intOf i).toNat)
  case atStart => exact ⟨0, by omega, rfl, E5.out⟩
  case round =>
    clear E5
    obtain ⟨k, hk, rfl, hE⟩ := hrel
    have E := Lib.hid hE
    clear hE
    by_cases hlt : k < 16
    · have hfl : (fillB (lowB a (2 * k)) 32).length = 32 := fillB_length _ _ (by rw [lowB_length]; omega)
      have c1 := E.out.getN 2 rfl k (by rw [HL.out]; exact hlt)
      have hlb := HLB.out k hlt
      have hhb := HHB.out k hlt
      have hdb := HDB.out k
      have c2 := bytesC_cell (E.out.row 0 rfl) (2 * k) (by rw [hfl]; omega)
      generalize ((fillB (lowB a (2 * k)) 32)[2 * k]'(by rw [hfl]; omega)).toNat = old at c2
      have f2 := E.out.fzN 0 rfl (2 * k)
      have st1 := fillB_set (lowB a (2 * k)) 32 (byteN a (2 * k)) (by rw [lowB_length]; omega)
      rw [lowB_length, ← lowB_succ] at st1
      have E2 := E.out.cellTo 0 rfl (2 * k) (.int .u8 ((byteN a (2 * k)).toNat : Int)) (bytesC_put _ (2 * k) (byteN a (2 * k)))
      simp only [List.set_cons_zero] at E2
      rw [st1] at E2
      have c1b := E2.getN 2 rfl k (by rw [HL.out]; exact hlt)
      have hfl2 : (fillB (lowB a (2 * k + 1)) 32).length = 32 := fillB_length _ _ (by rw [lowB_length]; omega)
      have c3 := bytesC_cell (E2.row 0 rfl) (2 * k + 1) (by rw [hfl2]; omega)
      generalize ((fillB (lowB a (2 * k + 1)) 32)[2 * k + 1]'(by rw [hfl2]; omega)).toNat = old2 at c3
      have f3 := E2.fzN 0 rfl (2 * k + 1)
      have st2 := fillB_set (lowB a (2 * k + 1)) 32 (byteN a (2 * k + 1)) (by rw [lowB_length]; omega)
      rw [lowB_length, ← lowB_succ, show 2 * k + 1 + 1 = 2 * (k + 1) by omega] at st2
      have E3 := E2.cellTo 0 rfl (2 * k + 1) (.int .u8 ((byteN a (2 * k + 1)).toNat : Int)) (bytesC_put _ (2 * k + 1) (byteN a (2 * k + 1)))
      simp only [List.set_cons_zero] at E3
      rw [st2] at E3
      rw [hlb] at c1b c3 f3
      rw [hlb, hhb] at E3
      generalize (digR 16 a).getD k 0 = d at c1 hdb E3 c1b c3 f3
      obtain ⟨r, hr⟩ : ∃ r, r = d % 256 := ⟨_, rfl⟩
      obtain ⟨u, hu⟩ : ∃ r, r = d / 256 := ⟨_, rfl⟩
      rw [← hr, ← hu] at E3
      rw [← hr] at c1b c3 f3
      have d1 : (d : Int) % 256 = (r : Int) := by omega
      have d2 : (d : Int) / 256 = (u : Int) := by omega
      have v1 : IntKind.u8.wrap (r : Int) = (r : Int) := by rw [IntKind.wrap_u8]; omega
      have v2 : IntKind.u8.wrap (u : Int) = (u : Int) := by rw [IntKind.wrap_u8]; omega
      have v3 : IntKind.u64.wrap (u : Int) = (u : Int) := wrap64 u (by omega)
      have HE := Lib.hid E3
      have hw1 : IntKind.i64.wrap (2 * (k : Int)) = 2 * (k : Int) := IntWalk.i64_in _ (by omega)
      have hw2 : IntKind.i64.wrap (2 * (k : Int) + 1) = 2 * (k : Int) + 1 := IntWalk.i64_in _ (by omega)
      have hq1 : (2 * (k : Int)).toNat = 2 * k := by omega
      have hq2 : (2 * (k : Int) + 1).toNat = 2 * k + 1 := by omega
      have hq3 : 2 * (k : Int) < 32 := by omega
      have hq4 : 2 * (k : Int) + 1 < 32 := by omega
      have hq5 : (k : Int) < 16 := by omega
      have hq6 : 0 ≤ 2 * (k : Int) + 1 := by omega
      have hq7 : 0 ≤ 2 * (k : Int) := by omega
      clear hr hu hlb hhb st1 st2 E2 E3 E hfl hfl2
      go_wp2
      go_roundw
      case rel => exact ⟨k + 1, by omega, by go_num, HE.out⟩
      case measure => simp [intOf]; omega
    · have hk16 : k = 16 := by omega
      have E2 := E.out
      rw [hk16, fillB_all _ _ (lowB_length a 32)] at E2
      have HE := Lib.hid E2
      clear E2 E hk16
      go_wp2_with (first
        | (with_reducible refine wpE_load (o := ⟨some 27, _, _, _, _, _⟩) rfl 23 (.tmp 3) rfl 0 g3 23 (keyC (lowB a 32)) _ (by with_unfolding_all rfl) (by with_unfolding_all rfl) Try.underlying23 rfl (Try.sizeKey _ (lowB_length a 32)) HE.out ?_)
        | ((with_reducible refine wpE_store (o := ⟨none, _, _, _, _, _⟩) rfl 23 (.tmp 2) (.tmp 27) rfl 1 g2 23 (keyC (zeroKey)) (keyC (lowB a 32)) (by with_unfolding_all rfl) (by with_unfolding_all rfl) (by with_unfolding_all rfl) (keyC_same zeroKey_length (lowB_length a 32)) (Try.sizeKey _ (lowB_length a 32)) (keyC_one _) HE.out ?_); intro w9 E9; simp only [List.set_cons_zero, List.set_cons_succ] at E9))
      exact bodyPost_ret (results_cell_row rfl _ _ g2 23 (keyC (lowB a 32)) (0, 0) _ rfl (E9.row 1 rfl) Try.underlying23 rfl (Try.sizeKey _ (lowB_length a 32))) rfl (E9.ret _)
end Go.Proofs.Ytpgjcmccfpjmoaa
end
section
namespace Go.Proofs.Ytpgjcmccfpjmoaa
open Go.RowKit
set_option linter.unusedVariables false

theorem range_all (a b : List UInt32) (h : a.length = b.length) : ((List.range a.length).all fun i => a.getD i 0 == b.getD i 0) = (a == b) := by
  rw [Bool.eq_iff_iff, List.all_eq_true, beq_iff_eq]
  constructor
  · intro hall
    apply List.ext_getElem h
    intro i h1 h2
    have := hall i (List.mem_range.2 h1)
    simpa [h1, h2] using this
  · rintro rfl i _
    exact beq_self_eq_true _
theorem words_eqIn {P : Program} (w : World) (d : Nat) (t e : TypeId) (n : Nat) (ht : P.underlying t = some (.array n e)) (he : P.underlying e = some (.int .u32)) (hs : ∀ w, (sizeOf e).run P w = .ok 1 w)
    (a b : List UInt32) (ha : a.length = n) (hb : b.length = n) : (Op.equalIn (d + 2) t (.agg (wordsC a)) (.agg (wordsC b))).run P w = .ok (a == b) w := by
  rw [← range_all a b (ha.trans hb.symm), ha, List.range_eq_range', Op.equalIn]
  simp only [Sem.run_bind, run_underlying ht, Result.andThen_ok, hs, Std.Legacy.Range.forIn_eq_forIn_range', Std.Legacy.Range.size, Nat.sub_zero, Nat.add_sub_cancel, Nat.div_one]
  have hin : ∀ i ∈ List.range' 0 n 1, i < n := fun i hi => by
    have := (List.mem_range'_1.1 hi).2
    omega
  generalize List.range' 0 n 1 = r at hin ⊢
  induction r with
  | nil => simp
  | cons i r ih =>
    have hi : i < n := hin i (by simp)
    have at_ : ∀ l : List UInt32, l.length = n → (part e (wordsC l) (i * 1)).run P w = .ok (.int .u32 ((l.getD i 0).toNat : Int)) w := fun l hl => by
      simp [part, isAgg, run_underlying he, wordsC_get l i (by omega)]
    have one : (Op.equalIn (d + 1) e (.int .u32 ((a.getD i 0).toNat : Int)) (.int .u32 ((b.getD i 0).toNat : Int))).run P w = .ok (a.getD i 0 == b.getD i 0) w := by
      rw [run_equalIn_int w d e .u32 .u32 _ _ he]
      congr 1
      rw [Bool.eq_iff_iff, beq_iff_eq, beq_iff_eq, ← UInt32.toNat_inj]
      omega
    simp only [List.forIn_cons, Sem.run_bind, at_ a ha, at_ b hb, one, Result.andThen_ok, List.all_cons]
    cases hc : (a.getD i 0 == b.getD i 0)
    · simp
    · simp only [Bool.not_true, Bool.false_eq_true, if_false, Sem.run_pure, Result.andThen_ok, Bool.true_and]
      exact ih fun j hj => hin j (List.mem_cons_of_mem _ hj)

theorem bytes_eqIn {P : Program} (w : World) (d : Nat) (t e : TypeId) (n : Nat) (ht : P.underlying t = some (.array n e)) (he : P.underlying e = some (.int .u8)) (hs : ∀ w, (sizeOf e).run P w = .ok 1 w)
    (a b : List UInt8) (ha : a.length = n) (hb : b.length = n) : (Op.equalIn (d + 2) t (.agg (keyC a)) (.agg (keyC b))).run P w = .ok (a == b) w :=
  run_equalIn_bytes w d t e n ht he hs a b ha hb

/-- What is not wanted is passed by. -/
theorem still_skip {P : Program} {ops : Array Oper} {w : World} {Q : Act → Prop} {a : Act} {o : Oper} {rest : List Oper} (hw : Region.wanted o (yielded ops a.tmps) = false)
    (h : wpStill P ops w Q rest (a.put o.dst undef)) : wpStill P ops w Q (o :: rest) a := by
  refine wpStill_step fun K hK => ?_
  rw [hw]
  simp only [Bool.false_eq_true, if_false]
  exact hK _ h
/-- A whole array is read. -/
theorem still_load_row {P : Program} {ops : Array Oper} {w : World} {Q : Act → Prop} {a : Act} {o : Oper} {rest : List Oper} (ty : TypeId) (x : Operand) (ho : o.op = .load ty x) (hw : Region.wanted o (yielded ops a.tmps) = true)
    (g : Nat) (hx : a.eval x = .pointer (some ⟨g, 0, none⟩)) (t : TypeId) (cs : Array Value) (fr : Nat × Nat) (d : TypeDesc) (hg : w.heap[g]? = some (.cells cs t fr))
    (hu : P.underlying ty = some d) (hd : (match d with | .struct _ | .array _ _ => true | _ => false) = true) (hi : (P.info? ty).map (·.size) = some cs.size)
    (h : wpStill P ops w Q rest (a.put o.dst (.agg cs))) : wpStill P ops w Q (o :: rest) a := by
  refine wpStill_step fun K hK => ?_
  rw [if_pos hw]
  unfold Oper.still execOp
  simp only [ho, hx, Instr.loadAt, Instr.sureAddr, Sem.run_bind, Sem.run_pure, Result.andThen_ok, run_loadVar_row w g t ty cs fr d hg hu hd hi]
  exact ⟨rfl, hK _ h⟩

/-- A walk of a region that only reads, closed to whoever would open it. -/
structure StillG (P : Program) (ops : Array Oper) (w : World) (Q : Act → Prop) (l : List Oper) (a : Act) : Prop where
  out : wpStill P ops w Q l a
theorem StillG.nil {P : Program} {ops : Array Oper} {w : World} {Q : Act → Prop} {a : Act} (h : Q a) : StillG P ops w Q [] a := ⟨wpStill_nil h⟩
theorem StillG.step {P : Program} {ops : Array Oper} {w : World} {Q : Act → Prop} {a : Act} {o : Oper} {rest : List Oper} (hw : Region.wanted o (yielded ops a.tmps) = true)
    (h : ∀ K : Act → Prop, (∀ a, StillG P ops w Q rest a → K a) → o.still P a w K) : StillG P ops w Q (o :: rest) a :=
  ⟨wpStill_step fun K hK => by rw [if_pos hw]; exact h K fun a k => hK a k.out⟩
theorem StillG.skip {P : Program} {ops : Array Oper} {w : World} {Q : Act → Prop} {a : Act} {o : Oper} {rest : List Oper} (hw : Region.wanted o (yielded ops a.tmps) = false)
    (h : StillG P ops w Q rest (a.put o.dst undef)) : StillG P ops w Q (o :: rest) a := ⟨still_skip hw h.out⟩
theorem StillG.row {P : Program} {ops : Array Oper} {w : World} {Q : Act → Prop} {a : Act} {o : Oper} {rest : List Oper} (ty : TypeId) (x : Operand) (ho : o.op = .load ty x) (hw : Region.wanted o (yielded ops a.tmps) = true)
    (g : Nat) (hx : a.eval x = .pointer (some ⟨g, 0, none⟩)) (t : TypeId) (cs : Array Value) (fr : Nat × Nat) (d : TypeDesc) (hg : w.heap[g]? = some (.cells cs t fr))
    (hu : P.underlying ty = some d) (hd : (match d with | .struct _ | .array _ _ => true | _ => false) = true) (hi : (P.info? ty).map (·.size) = some cs.size)
    (h : StillG P ops w Q rest (a.put o.dst (.agg cs))) : StillG P ops w Q (o :: rest) a := ⟨still_load_row ty x ho hw g hx t cs fr d hg hu hd hi h.out⟩
theorem region_stillG {P : Program} {id : Nat} {Q : Exit → Act → World → Prop} {a : Act} {w : World} {l : List Oper} (hm : P.follows .mixedOrders = true) (hB : Region.lexB .any l.toArray = true)
    (h : StillG P l.toArray w.drew (fun a' => Q .normal a' w.drew) l a) : (Code.region id l.toArray true).wp P Q a w := wp_region_still_lit hm hB h.out
end Go.Proofs.Ytpgjcmccfpjmoaa
end
