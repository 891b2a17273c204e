/-
  Contract of the document's Mul (layer 6). Conditions: the numbers are below p.
-/
import Derived.Test.YtejingggfbmbjaaFieldRefC
namespace Go.Proofs.Ytejingggfbmbjaa
open Go.RowKit
set_option linter.unusedVariables false
set_option maxRecDepth 20000

/-- What stands in the middle of the products: i whole rows, and j products of the next one. -/
def mulAt (x y W : List Nat) (i j : Nat) : Prop := W.length = 32 ∧ (∀ v ∈ W, v ≤ (16 * i + j) * 4294836225) ∧ valR W = valR (x.take i) * valR y + x.getD i 0 * valR (y.take j) * Bx ^ i
theorem mulAt_zero (x y : List Nat) : mulAt x y zero32n 0 0 := ⟨by simp [zero32n], by intro v hv; simp [zero32n] at hv; omega, by
  have : valR zero32n = 0 := by decide
  rw [this]
  simp [valR]⟩
theorem mulAt_step {x y W : List Nat} {i j : Nat} (hx : x.getD i 0 < 65536) (hy : y.getD j 0 < 65536) (hi : i < 16) (hj : j < 16) (hyl : y.length = 16) (h : mulAt x y W i j) : mulAt x y (W.set (i + j) (W.getD (i + j) 0 + x.getD i 0 * y.getD j 0)) i (j + 1) := by
  obtain ⟨h1, h2, h3⟩ := h
  have hm : x.getD i 0 * y.getD j 0 ≤ 65535 * 65535 := Nat.mul_le_mul (by omega) (by omega)
  have hg : W.getD (i + j) 0 ≤ (16 * i + j) * 4294836225 := by
    have := h2 (W[i + j]'(by omega)) (List.getElem_mem _)
    simpa [List.getD_eq_getElem?_getD, show i + j < W.length by omega] using this
  refine ⟨by simp [h1], ?_, ?_⟩
  · intro v hv
    have e : (16 * i + (j + 1)) * 4294836225 = (16 * i + j) * 4294836225 + 4294836225 := by omega
    rcases List.mem_or_eq_of_mem_set hv with hv | hv
    · have h5 := h2 v hv
      rw [e]
      exact Nat.le_trans h5 (Nat.le_add_right _ _)
    · rw [hv, e]
      exact Nat.add_le_add hg hm
  · have hs := valR_set W (i + j) (W.getD (i + j) 0 + x.getD i 0 * y.getD j 0) (by omega)
    rw [takeR_val y j (by omega)]
    rw [Nat.pow_add] at hs
    generalize valR (W.set (i + j) (W.getD (i + j) 0 + x.getD i 0 * y.getD j 0)) = v' at hs ⊢
    rw [h3] at hs
    generalize Bx ^ i = A at *
    generalize Bx ^ j = C at *
    generalize x.getD i 0 = p at *
    generalize y.getD j 0 = q at *
    generalize W.getD (i + j) 0 = g at *
    generalize valR (y.take j) = s at *
    generalize valR (x.take i) * valR y = t at *
    have e1 : A * C * (g + p * q) = A * C * g + A * C * (p * q) := Nat.mul_add _ _ _
    have e2 : p * (s + C * q) * A = p * s * A + A * C * (p * q) := by
      rw [Nat.mul_add, Nat.add_mul]
      congr 1
      rw [Nat.mul_comm (p * (C * q)) A, Nat.mul_left_comm p C q, Nat.mul_assoc]
    omega
theorem mulAt_row {x y W : List Nat} {i : Nat} (hi : i < x.length) (hyl : y.length = 16) (h : mulAt x y W i 16) : mulAt x y W (i + 1) 0 := by
  obtain ⟨h1, h2, h3⟩ := h
  refine ⟨h1, by have e : 16 * (i + 1) + 0 = 16 * i + 16 := by omega
                 rw [e]; exact h2, ?_⟩
  rw [h3, List.take_of_length_le (l := y) (by omega), takeR_val x i hi]
  simp only [List.take_zero, valR, Nat.mul_zero, Nat.zero_mul, Nat.add_zero]
  rw [Nat.add_mul]
  congr 1
  rw [Nat.mul_comm, Nat.mul_assoc]
/-- The digits of the products, put back once. -/
def backR (W : List Nat) : List Nat := addL (W.take 16) ((W.drop 16).map (38 * ·))
theorem backR_length (W : List Nat) (h : W.length = 32) : (backR W).length = 16 := by unfold backR; exact addL_length (by simp [h]) (by simp [h])
theorem backR_get (W : List Nat) (h : W.length = 32) (k : Nat) (hk : k < 16) : (backR W).getD k 0 = W.getD k 0 + 38 * W.getD (k + 16) 0 := by
  unfold backR
  rw [addL_get (by simp [h]) (by simp [h]) k hk]
  simp only [List.getD_eq_getElem?_getD, List.getElem?_map, List.getElem?_drop]
  rw [List.getElem?_take_of_lt hk, Nat.add_comm 16 k, List.getElem?_eq_getElem (show k + 16 < W.length by omega)]
  simp
theorem map38_val : ∀ l : List Nat, valR (l.map (38 * ·)) = 38 * valR l
  | [] => rfl
  | a :: l => by
    simp only [List.map_cons, valR, map38_val l, Nat.mul_add, Nat.mul_left_comm]
theorem backR_val (W : List Nat) (h : W.length = 32) : valR (backR W) % pF = valR W % pF := by
  unfold backR
  rw [addR_val _ _ (by simp [h]), map38_val]
  have e : valR W = valR (W.take 16) + Bx ^ 16 * valR (W.drop 16) := by
    have := valR_append (W.take 16) (W.drop 16)
    rwa [List.take_append_drop, List.length_take_of_le (by omega)] at this
  rw [e, Bx16, Nat.add_mul]
  have : valR (W.take 16) + (2 * pF * valR (W.drop 16) + 38 * valR (W.drop 16)) = valR (W.take 16) + 38 * valR (W.drop 16) + pF * (2 * valR (W.drop 16)) := by
    rw [Nat.mul_comm 2 pF, Nat.mul_assoc]
    omega
  rw [this, Nat.add_mul_mod_self_left]

set_option maxHeartbeats 4000000 in
theorem refMul_any (a b : Nat) (ha : a < pF) (hb : b < pF) (w : World) :
    Calls Try.prog 24 #[.agg (natsC (digR 16 a)), .agg (natsC (digR 16 b))] w (RetV w (.agg (natsC (digR 16 (a * b % pF))))) := by
  obtain ⟨x, hx⟩ : ∃ x, x = digR 16 a := ⟨_, rfl⟩
  obtain ⟨y, hy⟩ : ∃ y, y = digR 16 b := ⟨_, rfl⟩
  have hxl : x.length = 16 := by rw [hx, digR_length]
  have hyl : y.length = 16 := by rw [hy, digR_length]
  have hxb : ∀ k, x.getD k 0 < 65536 := fun k => by rw [hx]; exact digD_lt a k
  have hyb : ∀ k, y.getD k 0 < 65536 := fun k => by rw [hy]; exact digD_lt b k
  have LE : Hid (∀ W, mulAt x y W 16 0 → ∀ w, Calls Try.prog 34 #[.agg (natsC (backR W ++ [0]))] w (RetV w (.agg (natsC (digR 16 (a * b % pF)))))) := fun W hW w => by
    obtain ⟨h1, h2, h3⟩ := hW
    have hzl := backR_length W h1
    have hg : ∀ k, k < 32 → W.getD k 0 ≤ 256 * 4294836225 := fun k hk => by
      have := h2 (W[k]'(by omega)) (List.getElem_mem _)
      simpa [List.getD_eq_getElem?_getD, show k < W.length by omega] using this
    have hzb := with0_lt (backR W) 70368744177664 (getD_of_mem hzl fun k hk => by have := hg k (by omega); have := hg (k + 16) (by omega); rw [backR_get W h1 k hk]; omega) (by omega)
    have h := least_any (backR W ++ [0]) (by simp [hzl]) hzb w
    rw [with0_val _ hzl, backR_val W h1, h3] at h
    simp only [List.take_zero, valR, Nat.mul_zero, Nat.zero_mul, Nat.add_zero] at h
    rw [List.take_of_length_le (by omega), hx, hy, dig_val16 a ha, dig_val16 b hb] at h
    exact h
  rw [← hx, ← hy]
  have HXL := Lib.hid hxl
  have HYL := Lib.hid hyl
  have HXB := Lib.hid hxb
  have HYB := Lib.hid hyb
  have HR : Hid ((digR 16 (a * b % pF)).length = 16) := digR_length 16 _
  generalize digR 16 (a * b % pF) = res at LE HR ⊢
  clear hx hy hxl hyl hxb hyb
  have E0 := Env.start w
  go_enter Try.func24, Try.ntmps24
  go_wp2_with (first
    | ((with_reducible refine wpE_box (o := ⟨some 2, _, _, _, _, _⟩) rfl 33 (.tmp 0) rfl (natsC (x)) (by with_unfolding_all rfl) E0 ?_); intro g1 w1 E1)
    | ((with_reducible refine wpE_box (o := ⟨some 3, _, _, _, _, _⟩) rfl 33 (.tmp 1) rfl (natsC (y)) (by with_unfolding_all rfl) E1 ?_); intro g2 w2 E2)
    | ((with_reducible refine wpE_alloc (o := ⟨some 4, _, _, _, _, _⟩) rfl 33 rfl (natsC (zero16)) Try.zero16 E2 ?_); intro g3 w3 E3)
    | ((with_reducible refine wpE_alloc (o := ⟨some 5, _, _, _, _, _⟩) rfl 67 rfl (natsC (zero32n)) Try.zero32n E3 ?_); intro g4 w4 E4))
  have E5 := Lib.hid E4
  clear E0 E1 E2 E3 E4
  go_loopw [6] (fun i wr => ∃ (k : Nat) (W : List Nat), k ≤ 16 ∧ i = .int .i64 k ∧ mulAt x y W k 0 ∧ Env w [(g4, 67, natsC W), (g3, 33, natsC zero16), (g2, 33, natsC y), (g1, 33, natsC x)] wr) (fun i _ => 16 - (intOf i).toNat)
  case atStart => exact ⟨0, zero32n, by omega, rfl, mulAt_zero x y, E5.out⟩
  case round =>
    clear E5
    obtain ⟨i, W0, hi, rfl, hat0, hE⟩ := hrel
    have E := Lib.hid hE
    have AT := Lib.hid hat0
    clear hE hat0
    by_cases hlt : i < 16
    · have hi5 : (i : Int) < 16 := by omega
      go_wp2
      go_loopw [7] (fun v wr => ∃ (k : Nat) (W : List Nat), k ≤ 16 ∧ v = .int .i64 k ∧ mulAt x y W i k ∧ Env w [(g4, 67, natsC W), (g3, 33, natsC zero16), (g2, 33, natsC y), (g1, 33, natsC x)] wr) (fun v _ => 16 - (intOf v).toNat)
      case atStart => exact ⟨0, W0, by omega, rfl, AT.out, E.out⟩
      case round =>
        clear E AT
        obtain ⟨j, W, hj, rfl, hat, hE⟩ := hrel
        have E := Lib.hid hE
        have AT := Lib.hid hat
        clear hE hat
        by_cases hltj : j < 16
        · have hst := mulAt_step (HXB.out i) (HYB.out j) hlt hltj HYL.out AT.out
          have hwl := AT.out.1
          have hwb : ∀ k, W.getD k 0 ≤ 1099478073600 := fun k => by
            rw [List.getD_eq_getElem?_getD]
            cases hc : W[k]? with
            | none => simp
            | some v =>
              have h1 := AT.out.2.1 v (List.mem_of_getElem? hc)
              have h2 : (16 * i + j) * 4294836225 ≤ 1099478073600 := by omega
              exact Nat.le_trans h1 h2
          have c1 := E.out.getN 0 rfl (i + j) (by rw [hwl]; omega)
          have f1 := E.out.fzN 0 rfl (i + j)
          have c2 := E.out.getN 3 rfl i (by rw [HXL.out]; exact hlt)
          have c3 := E.out.getN 2 rfl j (by rw [HYL.out]; exact hltj)
          have b1 := hwb (i + j)
          have b2 := HXB.out i
          have b3 := HYB.out j
          have hm : x.getD i 0 * y.getD j 0 ≤ 65535 * 65535 := Nat.mul_le_mul (by omega) (by omega)
          have E4 := E.out.drew.cellN 0 rfl (i + j) (W.getD (i + j) 0 + x.getD i 0 * y.getD j 0)
          simp only [List.set_cons_zero] at E4
          have HST := Lib.hid hst
          have HE := Lib.hid E4
          generalize W.set (i + j) (W.getD (i + j) 0 + x.getD i 0 * y.getD j 0) = W' at HST HE
          generalize W.getD (i + j) 0 = g at c1 b1 HE
          generalize x.getD i 0 = p at c2 b2 hm HE
          generalize y.getD j 0 = q at c3 b3 hm HE
          obtain ⟨m, hm2⟩ : ∃ m, m = p * q := ⟨_, rfl⟩
          rw [← hm2] at hm HE
          obtain ⟨s, hs⟩ : ∃ s, s = g + m := ⟨_, rfl⟩
          rw [← hs] at HE
          have a0 : (p : Int) * (q : Int) = (m : Int) := by rw [hm2]; exact (Int.natCast_mul p q).symm
          have a1 : IntKind.u64.wrap (m : Int) = (m : Int) := wrap64 m (by omega)
          have a2 : IntKind.u64.wrap ((g : Int) + (m : Int)) = (s : Int) := by rw [IntKind.wrap_u64]; omega
          have hw1 : IntKind.i64.wrap ((i : Int) + (j : Int)) = (i : Int) + (j : Int) := IntWalk.i64_in _ (by omega)
          have hq0 : 0 ≤ (i : Int) + (j : Int) := by omega
          have hq1 : ((i : Int) + (j : Int)).toNat = i + j := by omega
          have hq2 : (i : Int) + (j : Int) < 32 := by omega
          have hj5 : (j : Int) < 16 := by omega
          clear hm2 hs hst hwl hwb E4 E
          go_wp2_with fail
          go_still_tail 17, (by kernel_rfl)
          change wpList _ _ _ _ _ wr.drew
          have c4 : wr.drew.cell? ⟨g4, i + j, none⟩ = some (.int .u64 (g : Int)) := c1
          have f4 : wr.drew.frozen? ⟨g4, i + j, none⟩ = false := f1
          clear c1 c2 c3 f1 a0 a1 a2 hw1
          go_wp2
          go_roundw
          case rel => exact ⟨j + 1, W', by omega, by go_num, HST.out, HE.out⟩
          case measure => simp [intOf]; omega
        · have hj16 : j = 16 := by omega
          have A2 := AT.out
          rw [hj16] at A2
          have A3 := Lib.hid (mulAt_row (by rw [HXL.out]; exact hlt) HYL.out A2)
          clear A2 hj16
          go_wp2
          go_roundw
          case rel => exact ⟨i + 1, W, by omega, by go_num, A3.out, E.out⟩
          case measure => simp [intOf]; omega
    · have hi16 : i = 16 := by omega
      have A2 := AT.out
      rw [hi16] at A2
      have LW := Lib.hid (LE.out W0 A2)
      have HWL : Hid (W0.length = 32) := A2.1
      have HWB : Hid (∀ k, W0.getD k 0 ≤ 256 * 4294836225) := fun k => by
        rw [List.getD_eq_getElem?_getD]
        cases hc : W0[k]? with
        | none => simp
        | some v => exact A2.2.1 v (List.mem_of_getElem? hc)
      have HBL : Hid ((backR W0).length = 16) := backR_length W0 A2.1
      have HB17 : Hid ((backR W0 ++ [0]).length = 17) := by show _ = _; rw [List.length_append, HBL.out]; rfl
      have HBG := Lib.hid (backR_get W0 A2.1)
      clear A2 hi16
      go_wp2_with (first
        | ((with_reducible refine wpE_alloc (o := ⟨some 8, _, _, _, _, _⟩) rfl 55 rfl (natsC (zero17)) Try.zero17 E.out ?_); intro g5 w5 E6)
        | ((with_reducible refine wpE_store (o := ⟨none, _, _, _, _, _⟩) rfl 55 (.tmp 8) (.tmp 35) rfl 0 g5 55 (natsC (zero17)) (natsC (zero17)) (by with_unfolding_all rfl) (by with_unfolding_all rfl) (by with_unfolding_all exact zero17V) (natsC_same zero17_length zero17_length) (sizeN Try.sz17 _ zero17_length) (natsC_one _) E6 ?_); intro w6 E7; simp only [List.set_cons_zero] at E7))
      have E8 := Lib.hid E7
      clear E6 E7
      go_loopw [9] (fun i wr => ∃ k : Nat, k ≤ 16 ∧ i = .int .i64 k ∧ Env w [(g5, 55, natsC (stP (backR W0 ++ [0]) zero17 k)), (g4, 67, natsC W0), (g3, 33, natsC zero16), (g2, 33, natsC y), (g1, 33, natsC x)] wr) (fun i _ => 16 - (intOf i).toNat)
      case atStart => exact ⟨0, by omega, rfl, by rw [stP_zero]; exact E8.out⟩
      case round =>
        clear E8 E
        obtain ⟨k, hk, rfl, hE⟩ := hrel
        have E := Lib.hid hE
        clear hE
        by_cases hltk : k < 16
        · have c1 := E.out.getN 1 rfl k (by rw [HWL.out]; omega)
          have c2 := E.out.getN 1 rfl (k + 16) (by rw [HWL.out]; omega)
          have c3 := E.out.getN 0 rfl k (by rw [stP_length _ _ HB17.out zero17_length k (by omega)]; omega)
          have f3 := E.out.fzN 0 rfl k
          have hst := stP_step (backR W0 ++ [0]) zero17 HB17.out zero17_length k (by omega)
          rw [with0_get _ HBL.out k hltk, HBG.out k hltk] at hst
          have b1 := HWB.out k
          have b2 := HWB.out (k + 16)
          generalize W0.getD k 0 = xv at c1 b1 hst
          generalize W0.getD (k + 16) 0 = yv at c2 b2 hst
          generalize (stP (backR W0 ++ [0]) zero17 k).getD k 0 = old at c3
          obtain ⟨m, hm⟩ : ∃ s, s = 38 * yv := ⟨_, rfl⟩
          obtain ⟨s, hs⟩ : ∃ s, s = xv + m := ⟨_, rfl⟩
          have a0 : 38 * (yv : Int) = (m : Int) := by omega
          have a1 : IntKind.u64.wrap (m : Int) = (m : Int) := wrap64 m (by omega)
          have a2 : IntKind.u64.wrap ((xv : Int) + (m : Int)) = (s : Int) := by rw [IntKind.wrap_u64]; omega
          have hw1 : IntKind.i64.wrap ((k : Int) + 16) = (k : Int) + 16 := IntWalk.i64_in _ (by omega)
          have hq0 : 0 ≤ (k : Int) + 16 := by omega
          have hq1 : ((k : Int) + 16).toNat = k + 16 := by omega
          have hq2 : (k : Int) + 16 < 32 := by omega
          have hq3 : (k : Int) < 32 := by omega
          have hq4 : (k : Int) < 17 := by omega
          rw [← hm, ← hs] at hst
          have E4 := E.out.drew.cellN 0 rfl k s
          simp only [List.set_cons_zero] at E4
          rw [hst] at E4
          have HE := Lib.hid E4
          clear hm hs hst E4 E
          go_wp2_with fail
          go_still_tail 11, (by kernel_rfl)
          change wpList _ _ _ _ _ wr.drew
          have c4 : wr.drew.cell? ⟨g5, k, none⟩ = some (.int .u64 (old : Int)) := c3
          have f4 : wr.drew.frozen? ⟨g5, k, none⟩ = false := f3
          clear c1 c2 c3 f3 a0 a1 a2 hw1
          go_wp2
          go_roundw
          case rel => exact ⟨k + 1, by omega, by go_num, HE.out⟩
          case measure => simp [intOf]; omega
        · have hk16 : k = 16 := by omega
          have E4 := E.out
          rw [hk16, stP_with0 _ HBL.out] at E4
          have HE := Lib.hid E4
          clear E4 E hk16
          go_wp2_with (first
            | (with_reducible refine wpE_load (o := ⟨some 51, _, _, _, _, _⟩) rfl 55 (.tmp 8) rfl 0 g5 55 (natsC (backR W0 ++ [0])) _ (by with_unfolding_all rfl) (by with_unfolding_all rfl) Try.underlying55 rfl (sizeN Try.sz17 _ HB17.out) HE.out ?_)
            | ((with_reducible refine (LW.out _).mono ?_); rintro e w6 ⟨rfl, b6⟩; have E7 := HE.out.call b6)
            | ((with_reducible refine wpE_store (o := ⟨none, _, _, _, _, _⟩) rfl 33 (.tmp 4) (.tmp 52) rfl 2 g3 33 (natsC (zero16)) (natsC (res)) (by with_unfolding_all rfl) (by with_unfolding_all rfl) (by with_unfolding_all rfl) (natsC_same zero16_length HR.out) (sizeN Try.sz16 _ HR.out) (natsC_one _) E7 ?_); intro w9 E9; simp only [List.set_cons_zero, List.set_cons_succ] at E9))
          exact bodyPost_ret (results_cell_row rfl _ _ g3 33 (natsC (res)) (0, 0) _ rfl (E9.row 2 rfl) Try.underlying33 rfl (sizeN Try.sz16 _ HR.out)) rfl (E9.ret _)
end Go.Proofs.Ytejingggfbmbjaa
