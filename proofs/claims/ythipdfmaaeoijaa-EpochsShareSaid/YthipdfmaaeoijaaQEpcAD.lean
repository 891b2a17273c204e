/-
  Texts that belong together, merged: FieldD, FieldE, FieldF, FieldG. Conditions: as each theorem names them.
-/
import Derived.Test.YthipdfmaaeoijaaQEpcAC
import Derived.StillTailTactics
section
namespace Go.Proofs.Ythipdfmaaeoijaa
open Go.RowKit
set_option linter.unusedVariables false
set_option maxRecDepth 20000

theorem low_digit (s : Nat) : s % 18446744073709551616 % 2251799813685248 = s % Mx := by unfold Mx; omega
theorem shift_digit (s : Nat) : s / 18446744073709551616 * 8192 + s % 18446744073709551616 / 2251799813685248 = s / Mx := by unfold Mx; omega

set_option maxHeartbeats 2000000 in
theorem narrowed_any (ws : List Nat) (hl : ws.length = 5) (hB : ∀ x ∈ ws, x < 5192296858534827628530496329220096) (h5 : cyC ws 5 < 288230376151711744) (w : World) :
    Calls Try.prog 59 #[.agg (natsC (widesL ws))] w (RetV w (.agg (natsC (carriedL ws)))) := by
  have HL := Lib.hid hl
  have HB := Lib.hid hB
  have H5 := Lib.hid h5
  have hwl : (widesL ws).length = 10 := by rw [widesL_length, hl]
  have HW := Lib.hid hwl
  have P1 : Hid (∀ (n a : Nat), a < 18446744073709551616 → n + a < 340282366920938463463374607431768211456 → ∀ w, Calls Try.prog 58 #[.agg (natsC (wideL n)), .int .u64 (a : Int), .int .u64 1] w (RetV w (.agg (natsC (wideL (n + a)))))) := fun n a ha hn w => by
    have := plus_any n a 1 ha (by omega) (by omega) w
    rwa [Nat.mul_one] at this
  clear hl hB h5 hwl
  have E0 := Env.start w
  go_enter Try.func59, Try.ntmps59
  go_wp2_with (first
    | ((with_reducible refine wpE_box (o := ⟨some 1, _, _, _, _, _⟩) rfl 101 (.tmp 0) rfl (natsC (widesL ws)) (by with_unfolding_all rfl) E0 ?_); intro g1 w1 E1)
    | ((with_reducible refine wpE_alloc (o := ⟨some 2, _, _, _, _, _⟩) rfl 57 rfl (natsC zero5) Try.zero5p E1 ?_); intro g2 w2 E2)
    | ((with_reducible refine wpE_alloc (o := ⟨some 3, _, _, _, _, _⟩) rfl 57 rfl (natsC zero5) Try.zero5p E2 ?_); intro g3 w3 E3)
    | (with_reducible refine wpE_load (o := ⟨some 7, _, _, _, _, _⟩) rfl 101 (.tmp 1) rfl 2 g1 101 (natsC (widesL ws)) _ (by with_unfolding_all rfl) (by with_unfolding_all rfl) Try.underlying101 rfl (sizeN Try.sz10 _ HW.out) E3 ?_))
  have E4 := Lib.hid E3
  clear E0 E1 E2 E3
  go_loopw [4, 8] (fun c i wr => ∃ k : Nat, k ≤ 5 ∧ i = .int .i64 k ∧ c = .int .u64 ((cyC ws k : Nat) : Int) ∧ Env w [(g3, 57, natsC (stN ws k)), (g2, 57, natsC zero5)] wr) (fun _ i _ => 5 - (intOf i).toNat)
  case atStart => exact ⟨0, by omega, rfl, by rw [cyC_zero]; rfl, E4.out.less (by simp [stN, digL, zero5, List.replicate])⟩
  case round =>
    clear E4
    obtain ⟨k, hk, rfl, rfl, hE⟩ := hrel
    have E := Lib.hid hE
    clear hE
    by_cases hlt : k < 5
    · have hix := fun W => index_wide W ws HL.out k hlt
      have hx := getD_lt HB.out (by omega) k
      have hc := cyC_lt ws _ HB.out (by omega) k (by rw [HL.out]; omega)
      have hc2 : cyC ws k < 4611686018427387904 := by unfold Mx at hc; omega
      have hstep := stN_step ws HL.out k hlt
      have hcy := cyC_succ ws k (by rw [HL.out]; omega)
      have hsl := stN_length ws k hk
      generalize ws.getD k 0 = x at hix hx hstep hcy
      generalize cyC ws k = c at hc2 hstep hcy ⊢
      have C1 := Lib.hid (P1.out x c (by omega) (by omega))
      obtain ⟨s, hs⟩ : ∃ s, s = x + c := ⟨_, rfl⟩
      rw [← hs] at C1 hstep hcy
      have hsl2 : s < 10384593717069655257060992658440192 := by omega
      obtain ⟨c', hc'⟩ : ∃ c', c' = cyC ws (k + 1) := ⟨_, rfl⟩
      rw [← hc'] at hcy
      have HC := Lib.hid hc'
      obtain ⟨hi, hhi⟩ : ∃ h, h = s / 18446744073709551616 := ⟨_, rfl⟩
      obtain ⟨lo, hlo⟩ : ∃ h, h = s % 18446744073709551616 := ⟨_, rfl⟩
      have hwd : wideL s = [hi, lo] := by unfold wideL; rw [← hhi, ← hlo]
      rw [hwd] at C1
      have hand := and51 lo (by omega)
      have hd : lo % 2251799813685248 = s % Mx := by rw [hlo]; exact low_digit s
      rw [hd] at hand
      rw [← hd] at hstep
      have hor := or64r (lo / 2251799813685248) (hi * 8192) 13 (by omega) (by omega) (by omega) (by omega)
      have hcc : lo / 2251799813685248 + hi * 8192 = c' := by rw [hcy, hhi, hlo]; have := shift_digit s; omega
      rw [hcc] at hor
      have hhb : hi < 562949953421312 := by omega
      have hlb : lo < 18446744073709551616 := by omega
      obtain ⟨q, hq⟩ : ∃ q, q = lo / 2251799813685248 := ⟨_, rfl⟩
      have hq1 : (lo : Int) / 2251799813685248 = (q : Int) := by omega
      obtain ⟨r, hr⟩ : ∃ r, r = hi * 8192 := ⟨_, rfl⟩
      have hr1 : (hi : Int) * 8192 = (r : Int) := by omega
      have hrl : r < 18446744073709551616 := by omega
      rw [← hq, ← hr] at hor
      obtain ⟨y, hy⟩ : ∃ y, y = s % Mx := ⟨_, rfl⟩
      rw [hd] at hstep
      rw [← hy] at hand hstep
      have HS := Lib.hid hstep
      have HSL := Lib.hid hsl
      have hk5 : (k : Int) < 5 := by omega
      clear hs hc' hhi hlo hwd hd hcc hq hr hy hstep hcy hsl hc hsl2 hx hc2
      go_wp2_with (first
        | ((with_reducible refine wpE_alloc (o := ⟨some 6, _, _, _, _, _⟩) rfl 100 rfl (natsC [0, 0]) Try.zero2 E.out ?_); intro g4 w4 E5)
        | ((with_reducible refine wpE_store (o := ⟨none, _, _, _, _, _⟩) rfl 100 (.tmp 6) (.tmp 11) rfl 0 g4 100 (natsC [0, 0]) (natsC (wideL x)) (by with_unfolding_all rfl) (by with_unfolding_all rfl) (by with_unfolding_all rfl) (natsC_same (two_length 0 0) (wideL_length x)) (sizeN Try.sz2 _ (wideL_length x)) (natsC_one _) E5 ?_); intro w5 E6; simp only [List.set_cons_zero] at E6; clear E5)
        | (with_reducible refine wpE_load (o := ⟨some 12, _, _, _, _, _⟩) rfl 100 (.tmp 6) rfl 0 g4 100 (natsC (wideL x)) _ (by with_unfolding_all rfl) (by with_unfolding_all rfl) Try.underlying100 rfl (sizeN Try.sz2 _ (wideL_length x)) E6 ?_)
        | ((with_reducible refine (C1.out _).mono ?_); rintro e w6 ⟨rfl, b6⟩; have E7 := Lib.hid (E6.call b6); clear b6 E6)
        | ((with_reducible refine wpE_store (o := ⟨none, _, _, _, _, _⟩) rfl 100 (.tmp 6) (.tmp 14) rfl 0 g4 100 (natsC (wideL x)) (natsC [hi, lo]) (by with_unfolding_all rfl) (by with_unfolding_all rfl) (by with_unfolding_all rfl) (natsC_same (wideL_length x) (two_length hi lo)) (sizeN Try.sz2 _ (two_length hi lo)) (natsC_one _) E7.out ?_); intro w7 E8; simp only [List.set_cons_zero] at E8; clear E7; have c1 := E8.getN 0 rfl 0 (by simp); have c2 := E8.getN 0 rfl 1 (by simp); simp only [List.getD_cons_zero, List.getD_cons_succ] at c1 c2; have c3 := E8.getN 1 rfl k (by rw [HSL.out]; exact hlt); have f3 := E8.fzN 1 rfl k; generalize (stN ws k).getD k 0 = old at c3; have E9 := E8.cellN 1 rfl k y; simp only [List.set_cons_zero, List.set_cons_succ] at E9; rw [HS.out] at E9; have c4 := E9.getN 0 rfl 0 (by simp); have c5 := E9.getN 0 rfl 1 (by simp); simp only [List.getD_cons_zero, List.getD_cons_succ] at c4 c5; have HE9 := Lib.hid (E9.less (List.sublist_cons_self _ _)); clear E9 E8))
      go_roundw
      case rel => exact ⟨k + 1, by omega, by go_num, by rw [HC.out], HE9.out⟩
      case measure => simp [intOf]; omega
    · have hk5 : k = 5 := by omega
      have e1 : stN ws k = digL 5 (valL ws) := by
        rw [hk5]
        unfold stN
        rw [List.take_of_length_le (by rw [HL.out]; omega)]
        simp
      have e2 : cyC ws k = valL ws / Mx ^ 5 := by rw [hk5]; unfold cyC; rw [List.take_of_length_le (by rw [HL.out]; omega)]
      have hsl : (stN ws k).length = 5 := by rw [e1, digL_length]
      have hfin : (stN ws k).set 0 ((stN ws k).getD 0 0 + 19 * cyC ws k) = carriedL ws := by rw [e1, e2]; rfl
      have c1 := E.out.getN 0 rfl 0 (by rw [hsl]; omega)
      have f1 := E.out.fzN 0 rfl 0
      have hd2 : (stN ws k).getD 0 0 < 2251799813685248 := by rw [e1]; exact getD_lt (digL_lt 5 _) Mx_pos 0
      have hc2 : cyC ws k < 288230376151711744 := by rw [hk5]; exact H5.out
      have E3 := E.out.cellN 0 rfl 0 ((stN ws k).getD 0 0 + 19 * cyC ws k)
      simp only [List.set_cons_zero] at E3
      rw [hfin] at E3
      have HE := Lib.hid E3
      clear E3 E hfin hsl e1 e2 hk5
      generalize (stN ws k).getD 0 0 = x at c1 hd2 HE
      generalize cyC ws k = c at hc2 HE ⊢
      have hx : x + 19 * c < 18446744073709551616 := by omega
      obtain ⟨s, hs⟩ : ∃ s, s = x + 19 * c := ⟨_, rfl⟩
      have hsum : (x : Int) + 19 * (c : Int) = (s : Int) := by omega
      rw [← hs] at HE hx
      clear hs
      go_wp2_with (first
        | (with_reducible refine wpE_load (o := ⟨some 34, _, _, _, _, _⟩) rfl 57 (.tmp 3) rfl 0 g3 57 (natsC (carriedL ws)) (.array 5 55) (by with_unfolding_all rfl) (by with_unfolding_all rfl) Try.underlying57 rfl (sizeN Try.sz5p _ (carriedL_length ws)) HE.out ?_)
        | ((with_reducible refine wpE_store (o := ⟨none, _, _, _, _, _⟩) rfl 57 (.tmp 2) (.tmp 34) rfl 1 g2 57 (natsC zero5) (natsC (carriedL ws)) (by with_unfolding_all rfl) (by with_unfolding_all rfl) (by with_unfolding_all rfl) (natsC_same zero5_length (carriedL_length ws)) (sizeN Try.sz5p _ (carriedL_length ws)) (natsC_one _) HE.out ?_); intro w9 E9))
      exact bodyPost_ret (results_cell_row rfl _ _ g2 57 (natsC (carriedL ws)) (0, 0) (.array 5 55) rfl (E9.row 1 rfl) Try.underlying57 rfl (sizeN Try.sz5p _ (carriedL_length ws))) rfl (E9.ret _)
end Go.Proofs.Ythipdfmaaeoijaa
end
section
namespace Go.Proofs.Ythipdfmaaeoijaa
open Go.RowKit
set_option linter.unusedVariables false
set_option maxRecDepth 20000

/-- The first k of z, and behind them what x has. -/
def stP (z x : List Nat) (k : Nat) : List Nat := z.take k ++ x.drop k
theorem stP_zero (z x : List Nat) : stP z x 0 = x := by simp [stP]
theorem stP_all (z x : List Nat) {n : Nat} (hz : z.length = n) (hx : x.length = n) : stP z x n = z := by
  unfold stP
  rw [List.take_of_length_le (by omega), List.drop_eq_nil_of_le (by omega), List.append_nil]
theorem stP_length (z x : List Nat) {n : Nat} (hz : z.length = n) (hx : x.length = n) (k : Nat) (hk : k ≤ n) : (stP z x k).length = n := by simp [stP]; omega
theorem stP_get (z x : List Nat) {n : Nat} (hz : z.length = n) (hx : x.length = n) (k : Nat) (hk : k < n) : (stP z x k).getD k 0 = x.getD k 0 := by
  simp only [stP, List.getD_eq_getElem?_getD]
  rw [List.getElem?_append_right (by simp; omega), List.getElem?_drop]
  congr 2
  simp
  omega
theorem stP_step (z x : List Nat) {n : Nat} (hz : z.length = n) (hx : x.length = n) (k : Nat) (hk : k < n) : (stP z x k).set k (z.getD k 0) = stP z x (k + 1) := by
  unfold stP
  rw [List.set_append_right _ _ (by simp; omega), List.length_take_of_le (by omega), Nat.sub_self, List.drop_eq_getElem_cons (by omega), List.set_cons_zero]
  have e := List.take_succ_eq_append_getElem (l := z) (i := k) (by omega)
  have hg : z.getD k 0 = z[k]'(by omega) := by simp [show k < z.length by omega]
  rw [hg, e, List.append_assoc]
  rfl

def addL (x y : List Nat) : List Nat := List.zipWith (· + ·) x y
theorem addL_length {x y : List Nat} {n : Nat} (hx : x.length = n) (hy : y.length = n) : (addL x y).length = n := by simp [addL, hx, hy]
theorem addL_get {x y : List Nat} {n : Nat} (hx : x.length = n) (hy : y.length = n) (k : Nat) (hk : k < n) : (addL x y).getD k 0 = x.getD k 0 + y.getD k 0 := by
  simp [addL, List.getD_eq_getElem?_getD, List.getElem?_zipWith, show k < x.length by omega, show k < y.length by omega]
theorem addL_val : ∀ (x y : List Nat), x.length = y.length → valL (addL x y) = valL x + valL y
  | [], [], _ => rfl
  | a :: x, b :: y, h => by
    have ih := addL_val x y (by simpa using h)
    simp only [addL, List.zipWith_cons_cons, valL] at *
    rw [ih, Nat.mul_add]
    omega
theorem getD_of_mem {z : List Nat} {B n : Nat} (hz : z.length = n) (h : ∀ k, k < n → z.getD k 0 < B) : ∀ x ∈ z, x < B := by
  intro x hx
  obtain ⟨k, hk, rfl⟩ := List.mem_iff_getElem.1 hx
  have := h k (by omega)
  simpa [List.getD_eq_getElem?_getD, hk] using this

set_option maxHeartbeats 2000000 in
theorem Add_any (a b : Nat) (ha : a < pF) (hb : b < pF) (w : World) :
    Calls Try.prog 55 #[.agg (natsC (elemL a)), .agg (natsC (elemL b))] w (RetV w (.agg (natsC (elemL ((a + b) % pF))))) := by
  obtain ⟨x, hx⟩ : ∃ x, x = elemL a := ⟨_, rfl⟩
  obtain ⟨y, hy⟩ : ∃ y, y = elemL b := ⟨_, rfl⟩
  obtain ⟨z, hz⟩ : ∃ z, z = addL x y := ⟨_, rfl⟩
  have hxl : x.length = 5 := by rw [hx, elemL_length]
  have hyl : y.length = 5 := by rw [hy, elemL_length]
  have hzl : z.length = 5 := by rw [hz, addL_length hxl hyl]
  have hzg : ∀ k, k < 5 → z.getD k 0 = x.getD k 0 + y.getD k 0 := fun k hk => by rw [hz, addL_get hxl hyl k hk]
  have hxb : ∀ k, x.getD k 0 < 2251799813685248 := fun k => getD_lt (by rw [hx]; exact elemL_lt a) Mx_pos k
  have hyb : ∀ k, y.getD k 0 < 2251799813685248 := fun k => getD_lt (by rw [hy]; exact elemL_lt b) Mx_pos k
  have hval : valL z % pF = (a + b) % pF := by rw [hz, addL_val x y (by omega), hx, hy, elemL_val a ha, elemL_val b hb]
  have R := Lib.hid (fun w => reduced_any w z hzl (getD_of_mem hzl fun k hk => by have := hxb k; have := hyb k; rw [hzg k hk]; omega))
  rw [hval] at R
  rw [← hx, ← hy]
  have HXL := Lib.hid hxl
  have HYL := Lib.hid hyl
  have HZL := Lib.hid hzl
  have HZG := Lib.hid hzg
  have HXB := Lib.hid hxb
  have HYB := Lib.hid hyb
  clear hx hy hz hxl hyl hzl hzg hxb hyb hval
  have E0 := Env.start w
  go_enter Try.func55, Try.ntmps55
  go_wp2_with (first
    | ((with_reducible refine wpE_box (o := ⟨some 2, _, _, _, _, _⟩) rfl 59 (.tmp 0) rfl (natsC x) (by with_unfolding_all rfl) E0 ?_); intro g1 w1 E1)
    | ((with_reducible refine wpE_box (o := ⟨some 3, _, _, _, _, _⟩) rfl 59 (.tmp 1) rfl (natsC y) (by with_unfolding_all rfl) E1 ?_); intro g2 w2 E2)
    | ((with_reducible refine wpE_alloc (o := ⟨some 4, _, _, _, _, _⟩) rfl 59 rfl (natsC zero5) Try.zero5e E2 ?_); intro g3 w3 E3))
  have E4 := Lib.hid E3
  clear E0 E1 E2 E3
  go_loopw [6] (fun i wr => ∃ k : Nat, k ≤ 5 ∧ i = .int .i64 k ∧ Env w [(g3, 59, natsC zero5), (g2, 59, natsC y), (g1, 59, natsC (stP z x k))] wr) (fun i _ => 5 - (intOf i).toNat)
  case atStart => exact ⟨0, by omega, rfl, by rw [stP_zero]; exact E4.out⟩
  case round =>
    clear E4
    obtain ⟨k, hk, rfl, hE⟩ := hrel
    have E := Lib.hid hE
    clear hE
    by_cases hlt : k < 5
    · have c1 := E.out.getN 2 rfl k (by rw [stP_length z x HZL.out HXL.out k hk]; exact hlt)
      rw [stP_get z x HZL.out HXL.out k hlt] at c1
      have c2 := E.out.getN 1 rfl k (by rw [HYL.out]; exact hlt)
      have f1 := E.out.fzN 2 rfl k
      have hk5 : (k : Int) < 5 := by omega
      have hb1 := HXB.out k
      have hb2 := HYB.out k
      have hstep := stP_step z x HZL.out HXL.out k hlt
      rw [HZG.out k hlt] at hstep
      generalize x.getD k 0 = xv at c1 hb1 hstep
      generalize y.getD k 0 = yv at c2 hb2 hstep
      obtain ⟨s, hs⟩ : ∃ s, s = xv + yv := ⟨_, rfl⟩
      have hsum : IntKind.u64.wrap ((xv : Int) + (yv : Int)) = (s : Int) := by rw [IntKind.wrap_u64]; omega
      rw [← hs] at hstep
      have HS := Lib.hid hstep
      clear hs hstep
      go_wp2_with fail
      go_still_tail 11, (by kernel_rfl)
      change wpList _ _ _ _ _ wr.drew
      have c3 : wr.drew.cell? ⟨g1, k, none⟩ = some (.int .u64 (xv : Int)) := c1
      have f3 : wr.drew.frozen? ⟨g1, k, none⟩ = false := f1
      clear c1 c2 f1 hsum
      have E5 := E.out.drew.cellN 2 rfl k s
      simp only [List.set_cons_zero, List.set_cons_succ] at E5
      rw [HS.out] at E5
      have HE5 := Lib.hid E5
      clear E5 E
      go_wp2
      go_roundw
      case rel => exact ⟨k + 1, by omega, by go_num, HE5.out⟩
      case measure => simp [intOf]; omega
    · have hk5 : k = 5 := by omega
      have E5 := E.out
      rw [hk5, stP_all z x HZL.out HXL.out] at E5
      have E6 := Lib.hid E5
      clear E5 E hk5
      go_wp2_with (first
        | (with_reducible refine wpE_load (o := ⟨some 22, _, _, _, _, _⟩) rfl 57 (.tmp 21) rfl 2 g1 59 (natsC z) (.array 5 55) (by with_unfolding_all rfl) (by with_unfolding_all rfl) Try.underlying57 rfl (sizeN Try.sz5p _ HZL.out) E6.out ?_)
        | ((with_reducible refine (R.out _).mono ?_); rintro e w6 ⟨rfl, b6⟩; have E7 := E6.out.call b6)
        | ((with_reducible refine wpE_store (o := ⟨none, _, _, _, _, _⟩) rfl 59 (.tmp 4) (.tmp 23) rfl 0 g3 59 (natsC zero5) (natsC (elemL ((a + b) % pF))) (by with_unfolding_all rfl) (by with_unfolding_all rfl) (by with_unfolding_all rfl) (natsC_same zero5_length (elemL_length _)) (sizeN Try.sz5e _ (elemL_length _)) (natsC_one _) E7 ?_); intro w9 E9))
      exact bodyPost_ret (results_cell_row rfl _ _ g3 59 (natsC (elemL ((a + b) % pF))) (0, 0) _ rfl (E9.row 0 rfl) Try.underlying59 rfl (sizeN Try.sz5e _ (elemL_length _))) rfl (E9.ret _)
/-- Twice p, a part at a time; a difference, with that added. -/
def twiceL : List Nat := [4503599627370458, 4503599627370494, 4503599627370494, 4503599627370494, 4503599627370494]
theorem twiceL_length : twiceL.length = 5 := rfl
theorem twiceV : Value.agg #[.int .u64 4503599627370458, .int .u64 4503599627370494, .int .u64 4503599627370494, .int .u64 4503599627370494, .int .u64 4503599627370494] = .agg (natsC twiceL) := rfl
theorem twiceL_lt (k : Nat) : twiceL.getD k 0 < 4503599627370495 := getD_lt (B := 4503599627370495) (by decide) (by decide) k
theorem twiceL_ge (k : Nat) (h : k < 5) : 2251799813685248 ≤ twiceL.getD k 0 := by
  have : ∀ k, k < 5 → 2251799813685248 ≤ twiceL.getD k 0 := by decide
  exact this k h
def subL (x y : List Nat) : List Nat := addL x (List.zipWith (· - ·) twiceL y)
theorem subL_length {x y : List Nat} (hx : x.length = 5) (hy : y.length = 5) : (subL x y).length = 5 := addL_length hx (by simp [hy, twiceL_length])
theorem subL_get {x y : List Nat} (hx : x.length = 5) (hy : y.length = 5) (k : Nat) (hk : k < 5) : (subL x y).getD k 0 = x.getD k 0 + (twiceL.getD k 0 - y.getD k 0) := by
  unfold subL
  rw [addL_get hx (by simp [hy, twiceL_length]) k hk]
  congr 1
  simp [List.getD_eq_getElem?_getD, List.getElem?_zipWith, show k < twiceL.length by rw [twiceL_length]; exact hk, show k < y.length by omega]
theorem subL_val {x y : List Nat} (hx : x.length = 5) (hy : y.length = 5) (hb : ∀ k, y.getD k 0 < 2251799813685248) : valL (subL x y) + valL y = valL x + 2 * pF := by
  unfold subL
  rw [addL_val x _ (by simp [hy, hx, twiceL_length])]
  match y, hy with
  | [a, b, c, d, e], _ =>
    have h0 := hb 0
    have h1 := hb 1
    have h2 := hb 2
    have h3 := hb 3
    have h4 := hb 4
    simp only [List.getD_cons_zero, List.getD_cons_succ] at h0 h1 h2 h3 h4
    simp only [twiceL, List.zipWith_cons_cons, List.zipWith_nil_left, valL, Mx, pF]
    omega
/-- A difference modulo p. -/
def subF (a b : Nat) : Nat := (a + (pF - b)) % pF
theorem subF_lt (a b : Nat) : subF a b < pF := Nat.mod_lt _ (by decide)
theorem subF_of {a b z : Nat} (ha : a < pF) (hb : b < pF) (h : z + b = a + 2 * pF) : z % pF = subF a b := by
  unfold subF
  rw [show z = a + (pF - b) + pF by omega, Nat.add_mod_right]

set_option maxHeartbeats 2000000 in
theorem Sub_any (a b : Nat) (ha : a < pF) (hb : b < pF) (w : World) :
    Calls Try.prog 56 #[.agg (natsC (elemL a)), .agg (natsC (elemL b))] w (RetV w (.agg (natsC (elemL (subF a b))))) := by
  obtain ⟨x, hx⟩ : ∃ x, x = elemL a := ⟨_, rfl⟩
  obtain ⟨y, hy⟩ : ∃ y, y = elemL b := ⟨_, rfl⟩
  obtain ⟨z, hz⟩ : ∃ z, z = subL x y := ⟨_, rfl⟩
  have hxl : x.length = 5 := by rw [hx, elemL_length]
  have hyl : y.length = 5 := by rw [hy, elemL_length]
  have hzl : z.length = 5 := by rw [hz, subL_length hxl hyl]
  have hzg : ∀ k, k < 5 → z.getD k 0 = x.getD k 0 + (twiceL.getD k 0 - y.getD k 0) := fun k hk => by rw [hz, subL_get hxl hyl k hk]
  have hxb : ∀ k, x.getD k 0 < 2251799813685248 := fun k => getD_lt (by rw [hx]; exact elemL_lt a) Mx_pos k
  have hyb : ∀ k, y.getD k 0 < 2251799813685248 := fun k => getD_lt (by rw [hy]; exact elemL_lt b) Mx_pos k
  have hval : valL z % pF = subF a b := by
    have := subL_val hxl hyl hyb
    rw [← hz, hx, hy, elemL_val a ha, elemL_val b hb] at this
    exact subF_of ha hb this
  have R := Lib.hid (fun w => reduced_any w z hzl (getD_of_mem hzl fun k hk => by have := hxb k; have := twiceL_lt k; rw [hzg k hk]; omega))
  rw [hval] at R
  rw [← hx, ← hy]
  have HXL := Lib.hid hxl
  have HYL := Lib.hid hyl
  have HZL := Lib.hid hzl
  have HZG := Lib.hid hzg
  have HXB := Lib.hid hxb
  have HYB := Lib.hid hyb
  clear hx hy hz hxl hyl hzl hzg hxb hyb hval
  have E0 := Env.start w
  go_enter Try.func56, Try.ntmps56
  go_wp2_with (first
    | ((with_reducible refine wpE_box (o := ⟨some 2, _, _, _, _, _⟩) rfl 59 (.tmp 0) rfl (natsC x) (by with_unfolding_all rfl) E0 ?_); intro g1 w1 E1)
    | ((with_reducible refine wpE_box (o := ⟨some 3, _, _, _, _, _⟩) rfl 59 (.tmp 1) rfl (natsC y) (by with_unfolding_all rfl) E1 ?_); intro g2 w2 E2)
    | ((with_reducible refine wpE_alloc (o := ⟨some 4, _, _, _, _, _⟩) rfl 59 rfl (natsC zero5) Try.zero5e E2 ?_); intro g3 w3 E3)
    | ((with_reducible refine wpE_alloc (o := ⟨some 5, _, _, _, _, _⟩) rfl 57 rfl (natsC zero5) Try.zero5p E3 ?_); intro g4 w4 E4)
    | ((with_reducible refine wpE_store (o := ⟨none, _, _, _, _, _⟩) rfl 57 (.tmp 5) (.tmp 7) rfl 0 g4 57 (natsC zero5) (natsC twiceL) (by with_unfolding_all rfl) (by with_unfolding_all rfl) (by with_unfolding_all exact twiceV) (natsC_same zero5_length twiceL_length) (sizeN Try.sz5p _ twiceL_length) (natsC_one _) E4 ?_); intro w5 E5; simp only [List.set_cons_zero] at E5))
  have E6 := Lib.hid E5
  clear E0 E1 E2 E3 E4 E5
  go_loopw [8] (fun i wr => ∃ k : Nat, k ≤ 5 ∧ i = .int .i64 k ∧ Env w [(g4, 57, natsC twiceL), (g3, 59, natsC zero5), (g2, 59, natsC y), (g1, 59, natsC (stP z x k))] wr) (fun i _ => 5 - (intOf i).toNat)
  case atStart => exact ⟨0, by omega, rfl, by rw [stP_zero]; exact E6.out⟩
  case round =>
    clear E6
    obtain ⟨k, hk, rfl, hE⟩ := hrel
    have E := Lib.hid hE
    clear hE
    by_cases hlt : k < 5
    · have c1 := E.out.getN 3 rfl k (by rw [stP_length z x HZL.out HXL.out k hk]; exact hlt)
      rw [stP_get z x HZL.out HXL.out k hlt] at c1
      have c2 := E.out.getN 2 rfl k (by rw [HYL.out]; exact hlt)
      have c0 := E.out.getN 0 rfl k (by rw [twiceL_length]; exact hlt)
      have hb0 := twiceL_lt k
      have hb4 := twiceL_ge k hlt
      have f1 := E.out.fzN 3 rfl k
      have hk5 : (k : Int) < 5 := by omega
      have hb1 := HXB.out k
      have hb2 := HYB.out k
      have hstep := stP_step z x HZL.out HXL.out k hlt
      rw [HZG.out k hlt] at hstep
      generalize x.getD k 0 = xv at c1 hb1 hstep
      generalize y.getD k 0 = yv at c2 hb2 hstep
      generalize twiceL.getD k 0 = tv at c0 hb0 hb4 hstep
      obtain ⟨s, hs⟩ : ∃ s, s = xv + (tv - yv) := ⟨_, rfl⟩
      obtain ⟨d, hd⟩ : ∃ d, d = tv - yv := ⟨_, rfl⟩
      have hdif : IntKind.u64.wrap ((tv : Int) - (yv : Int)) = (d : Int) := by rw [IntKind.wrap_u64]; omega
      have hsum : IntKind.u64.wrap ((xv : Int) + (d : Int)) = (s : Int) := by rw [IntKind.wrap_u64]; omega
      rw [← hs] at hstep
      have HS := Lib.hid hstep
      clear hs hd hstep hb4
      go_wp2_with fail
      go_still_tail 15, (by kernel_rfl)
      change wpList _ _ _ _ _ wr.drew
      have c3 : wr.drew.cell? ⟨g1, k, none⟩ = some (.int .u64 (xv : Int)) := c1
      have f3 : wr.drew.frozen? ⟨g1, k, none⟩ = false := f1
      clear c0 c1 c2 f1 hsum hdif
      have E5 := E.out.drew.cellN 3 rfl k s
      simp only [List.set_cons_zero, List.set_cons_succ] at E5
      rw [HS.out] at E5
      have HE5 := Lib.hid E5
      clear E5 E
      go_wp2
      go_roundw
      case rel => exact ⟨k + 1, by omega, by go_num, HE5.out⟩
      case measure => simp [intOf]; omega
    · have hk5 : k = 5 := by omega
      have E5 := E.out
      rw [hk5, stP_all z x HZL.out HXL.out] at E5
      have E6 := Lib.hid E5
      clear E5 E hk5
      go_wp2_with (first
        | (with_reducible refine wpE_load (o := ⟨some 28, _, _, _, _, _⟩) rfl 57 (.tmp 27) rfl 3 g1 59 (natsC z) (.array 5 55) (by with_unfolding_all rfl) (by with_unfolding_all rfl) Try.underlying57 rfl (sizeN Try.sz5p _ HZL.out) E6.out ?_)
        | ((with_reducible refine (R.out _).mono ?_); rintro e w6 ⟨rfl, b6⟩; have E7 := E6.out.call b6)
        | ((with_reducible refine wpE_store (o := ⟨none, _, _, _, _, _⟩) rfl 59 (.tmp 4) (.tmp 29) rfl 1 g3 59 (natsC zero5) (natsC (elemL (subF a b))) (by with_unfolding_all rfl) (by with_unfolding_all rfl) (by with_unfolding_all rfl) (natsC_same zero5_length (elemL_length _)) (sizeN Try.sz5e _ (elemL_length _)) (natsC_one _) E7 ?_); intro w9 E9))
      exact bodyPost_ret (results_cell_row rfl _ _ g3 59 (natsC (elemL (subF a b))) (0, 0) _ rfl (E9.row 1 rfl) Try.underlying59 rfl (sizeN Try.sz5e _ (elemL_length _))) rfl (E9.ret _)
end Go.Proofs.Ythipdfmaaeoijaa
end
section
namespace Go.Proofs.Ythipdfmaaeoijaa
open Go.RowKit
set_option linter.unusedVariables false
set_option maxRecDepth 20000

/-- The sums behind the first t products: i is t / 5, j is t % 5. -/
def mulStep (x y l : List Nat) (i j : Nat) : List Nat := l.set ((i + j) % 5) (l.getD ((i + j) % 5) 0 + x.getD i 0 * (if i + j < 5 then y.getD j 0 else 19 * y.getD j 0))
def mulS (x y : List Nat) : Nat → List Nat
  | 0 => [0, 0, 0, 0, 0]
  | t + 1 => mulStep x y (mulS x y t) (t / 5) (t % 5)
theorem mulS_length (x y : List Nat) (t : Nat) : (mulS x y t).length = 5 := by
  induction t with
  | zero => rfl
  | succ t ih => simp [mulS, mulStep, ih]
def bigB : Nat := 2251799813685248 * 42784196460019712
theorem mulS_lt (x y : List Nat) (hx : ∀ k, x.getD k 0 < 2251799813685248) (hy : ∀ k, y.getD k 0 < 2251799813685248) (t : Nat) : ∀ z ∈ mulS x y t, z ≤ t * bigB := by
  induction t with
  | zero => intro z hz; simp [mulS] at hz; omega
  | succ t ih =>
    intro z hz
    unfold mulS mulStep at hz
    have h2 : x.getD (t / 5) 0 * (if t / 5 + t % 5 < 5 then y.getD (t % 5) 0 else 19 * y.getD (t % 5) 0) ≤ bigB := by
      unfold bigB
      refine Nat.mul_le_mul (Nat.le_of_lt (hx _)) ?_
      have := hy (t % 5)
      split <;> omega
    generalize x.getD (t / 5) 0 * (if t / 5 + t % 5 < 5 then y.getD (t % 5) 0 else 19 * y.getD (t % 5) 0) = m at h2 hz
    have hi : (t / 5 + t % 5) % 5 < 5 := by omega
    generalize (t / 5 + t % 5) % 5 = i at hi hz
    rw [Nat.succ_mul]
    rcases List.mem_or_eq_of_mem_set hz with hz | rfl
    · have := ih z hz
      omega
    · have hlt : i < (mulS x y t).length := by rw [mulS_length]; omega
      have h1 := ih ((mulS x y t)[i]) (List.getElem_mem hlt)
      have e : (mulS x y t).getD i 0 = (mulS x y t)[i] := by simp [List.getD_eq_getElem?_getD, hlt]
      rw [e]
      omega

/-- The twenty-five products put together are the product modulo p. -/
theorem mulS_all (a b c d e a' b' c' d' e' : Nat) : mulS [a, b, c, d, e] [a', b', c', d', e'] 25 =
    [a * a' + b * (19 * e') + c * (19 * d') + d * (19 * c') + e * (19 * b'),
     a * b' + b * a' + c * (19 * e') + d * (19 * d') + e * (19 * c'),
     a * c' + b * b' + c * a' + d * (19 * e') + e * (19 * d'),
     a * d' + b * c' + c * b' + d * a' + e * (19 * e'),
     a * e' + b * d' + c * c' + d * b' + e * a'] := by
  simp [mulS, mulStep]
theorem list5 {x : List Nat} (h : x.length = 5) : ∃ a b c d e, x = [a, b, c, d, e] := by
  match x, h with
  | [a, b, c, d, e], _ => exact ⟨a, b, c, d, e, rfl⟩
theorem mul_val (a b c d e a' b' c' d' e' : Nat) : ∃ q, valL [a, b, c, d, e] * valL [a', b', c', d', e'] = valL (mulS [a, b, c, d, e] [a', b', c', d', e'] 25) + pF * q := by
  refine ⟨b * e' + c * d' + d * c' + e * b' + Mx * (c * e' + d * d' + e * c' + Mx * (d * e' + e * d' + Mx * (e * e'))), ?_⟩
  rw [mulS_all]
  simp only [valL, Mx, pF]
  grind

theorem mul_val2 {x y z : List Nat} (hxl : x.length = 5) (hyl : y.length = 5) (hz : z = mulS x y 25) : ∃ q, valL x * valL y = valL z + pF * q := by
  obtain ⟨a, b, c, d, e, hxe⟩ := list5 hxl
  obtain ⟨a', b', c', d', e', hye⟩ := list5 hyl
  rw [hz, hxe, hye]
  exact mul_val a b c d e a' b' c' d' e'
theorem mulS_get (x y : List Nat) (hx : ∀ k, x.getD k 0 < 2251799813685248) (hy : ∀ k, y.getD k 0 < 2251799813685248) (t : Nat) (ht : t ≤ 25) (k : Nat) : (mulS x y t).getD k 0 < 2535301200456458802993406410752000 := by
  refine getD_lt (fun z hz => ?_) (by omega) k
  have h := mulS_lt x y hx hy t z hz
  have h2 : t * bigB ≤ 25 * bigB := Nat.mul_le_mul_right _ ht
  unfold bigB at h h2
  omega

theorem carriedL_below {z : List Nat} (hz : z.length = 5) (h5 : cyC z 5 < 288230376151711744) : ∀ v ∈ carriedL z, v < 9223372036854775808 := by
  have e : cyC z 5 = valL z / Mx ^ 5 := by unfold cyC; rw [List.take_of_length_le (by omega)]
  rw [e] at h5
  intro v hv
  have h2 := Nat.mod_lt (valL z) Mx_pos
  have hM : Mx = 2251799813685248 := rfl
  rcases List.mem_or_eq_of_mem_set hv with hv | rfl
  · have := digL_lt 5 _ v hv
    omega
  · omega
theorem mulS_top {x y z : List Nat} (hxl : x.length = 5) (hyl : y.length = 5) (hx : ∀ k, x.getD k 0 < 2251799813685248) (hy : ∀ k, y.getD k 0 < 2251799813685248) (hz : z = mulS x y 25) : cyC z 5 < 288230376151711744 := by
  have hzl : z.length = 5 := by rw [hz, mulS_length]
  have hB : ∀ v ∈ z, v < 2535301200456458802993406410752000 := getD_of_mem hzl fun k _ => by rw [hz]; exact mulS_get x y hx hy 25 (by omega) k
  have h4 := cyC_lt z _ hB (by omega) 4 (by omega)
  have hs : cyC z 5 = (z.getD 4 0 + cyC z 4) / Mx := cyC_succ z 4 (by omega)
  have hg : z.getD 4 0 ≤ 25353012004564588029934064107520 := by
    rw [hz]
    obtain ⟨a, b, c, d, e, hxe⟩ := list5 hxl
    obtain ⟨a', b', c', d', e', hye⟩ := list5 hyl
    rw [hxe] at hx
    rw [hye] at hy
    rw [hxe, hye, mulS_all]
    · have m : ∀ u v : Nat, u < 2251799813685248 → v < 2251799813685248 → u * v ≤ 5070602400912917605986812821504 := fun u v hu hv => Nat.mul_le_mul (Nat.le_of_lt hu) (Nat.le_of_lt hv)
      have h1 := m a e' (hx 0) (hy 4)
      have h2 := m b d' (hx 1) (hy 3)
      have h3 := m c c' (hx 2) (hy 2)
      have h4 := m d b' (hx 3) (hy 1)
      have h5 := m e a' (hx 4) (hy 0)
      simp only [List.getD_cons_zero, List.getD_cons_succ]
      omega
  unfold Mx at h4 hs
  omega

theorem mulS_step (x y : List Nat) (i j : Nat) (hj : j < 5) : mulS x y (5 * i + (j + 1)) = (mulS x y (5 * i + j)).set ((i + j) % 5) ((mulS x y (5 * i + j)).getD ((i + j) % 5) 0 + x.getD i 0 * (if i + j < 5 then y.getD j 0 else 19 * y.getD j 0)) := by
  have e1 : (5 * i + j) / 5 = i := by omega
  have e2 : (5 * i + j) % 5 = j := by omega
  show mulStep x y (mulS x y (5 * i + j)) ((5 * i + j) / 5) ((5 * i + j) % 5) = _
  rw [e1, e2]
  rfl

set_option maxHeartbeats 4000000 in
theorem Mul_any (a b : Nat) (ha : a < pF) (hb : b < pF) (w : World) :
    Calls Try.prog 37 #[.agg (natsC (elemL a)), .agg (natsC (elemL b))] w (RetV w (.agg (natsC (elemL (a * b % pF))))) := by
  obtain ⟨x, hx⟩ : ∃ x, x = elemL a := ⟨_, rfl⟩
  obtain ⟨y, hy⟩ : ∃ y, y = elemL b := ⟨_, rfl⟩
  have hxl : x.length = 5 := by rw [hx, elemL_length]
  have hyl : y.length = 5 := by rw [hy, elemL_length]
  have hxb : ∀ k, x.getD k 0 < 2251799813685248 := fun k => getD_lt (by rw [hx]; exact elemL_lt a) Mx_pos k
  have hyb : ∀ k, y.getD k 0 < 2251799813685248 := fun k => getD_lt (by rw [hy]; exact elemL_lt b) Mx_pos k
  obtain ⟨z, hz⟩ : ∃ z, z = mulS x y 25 := ⟨_, rfl⟩
  have hzl : z.length = 5 := by rw [hz, mulS_length]
  have hzb : ∀ v ∈ z, v < 5192296858534827628530496329220096 := getD_of_mem hzl fun k _ => by have := mulS_get x y hxb hyb 25 (by omega) k; rw [← hz] at this; omega
  have hz5 : cyC z 5 < 288230376151711744 := mulS_top hxl hyl hxb hyb hz
  have hval : valL z % pF = a * b % pF := by
    have e : valL x * valL y % pF = valL z % pF := by
      obtain ⟨q, hq⟩ := mul_val2 hxl hyl hz
      rw [hq, Nat.add_mul_mod_self_left]
    rw [← e, hx, hy, elemL_val a ha, elemL_val b hb]
  have N := Lib.hid (fun w => narrowed_any z hzl hzb hz5 w)
  have R := Lib.hid (fun w => reduced_any w (carriedL z) (carriedL_length z) (carriedL_below hzl hz5))
  rw [carriedL_val, foldN_mod, hval] at R
  rw [← hx, ← hy]
  have HXL := Lib.hid hxl
  have HYL := Lib.hid hyl
  have HXB := Lib.hid hxb
  have HYB := Lib.hid hyb
  have HZ := Lib.hid hz
  have HWL : Hid (∀ t, (widesL (mulS x y t)).length = 10) := fun t => by rw [widesL_length, mulS_length]
  have PL : Hid (∀ n a b : Nat, a < 2251799813685248 → b < 42784196460019712 → n < 2535301200456458802993406410752000 → ∀ w, Calls Try.prog 58 #[.agg (natsC (wideL n)), .int .u64 (a : Int), .int .u64 (b : Int)] w (RetV w (.agg (natsC (wideL (n + a * b)))))) := fun n a b ha hb hn w => plus_any n a b (by omega) (by omega) (by
    have h : a * b ≤ 2251799813685248 * 42784196460019712 := Nat.mul_le_mul (Nat.le_of_lt ha) (Nat.le_of_lt hb)
    omega) w
  clear hx hy hz hxl hyl hzl hxb hyb hzb hz5 hval
  have E0 := Env.start w
  go_enter Try.func37, Try.ntmps37
  go_wp2_with (first
    | ((with_reducible refine wpE_box (o := ⟨some 2, _, _, _, _, _⟩) rfl 59 (.tmp 0) rfl (natsC x) (by with_unfolding_all rfl) E0 ?_); intro g1 w1 E1)
    | ((with_reducible refine wpE_box (o := ⟨some 3, _, _, _, _, _⟩) rfl 59 (.tmp 1) rfl (natsC y) (by with_unfolding_all rfl) E1 ?_); intro g2 w2 E2)
    | ((with_reducible refine wpE_alloc (o := ⟨some 4, _, _, _, _, _⟩) rfl 59 rfl (natsC zero5) Try.zero5e E2 ?_); intro g3 w3 E3)
    | ((with_reducible refine wpE_alloc (o := ⟨some 5, _, _, _, _, _⟩) rfl 101 rfl (natsC zero10) Try.zero10 E3 ?_); intro g4 w4 E4)
    | (with_reducible refine wpE_load (o := ⟨some 11, _, _, _, _, _⟩) rfl 57 (.tmp 10) rfl 3 g1 59 (natsC x) (.array 5 55) (by with_unfolding_all rfl) (by with_unfolding_all rfl) Try.underlying57 rfl (sizeN Try.sz5p _ HXL.out) E4 ?_))
  have E5 := Lib.hid E4
  clear E0 E1 E2 E3 E4
  go_loopw [12] (fun i wr => ∃ k : Nat, k ≤ 5 ∧ i = .int .i64 k ∧ Env w [(g4, 101, natsC (widesL (mulS x y (5 * k)))), (g3, 59, natsC zero5), (g2, 59, natsC y), (g1, 59, natsC x)] wr) (fun i _ => 5 - (intOf i).toNat)
  case atStart => exact ⟨0, by omega, rfl, E5.out⟩
  case round =>
    clear E5
    obtain ⟨i, hi, rfl, hE⟩ := hrel
    have E := Lib.hid hE
    clear hE
    by_cases hlt : i < 5
    · have hix := fun W => run_indexN (P := Try.prog) W 57 55 5 x i Try.underlying57 Try.underlying55 Try.szU64 HXL.out hlt
      have hxi := HXB.out i
      obtain ⟨xi, hxi2⟩ : ∃ v, v = x.getD i 0 := ⟨_, rfl⟩
      rw [← hxi2] at hix hxi
      have HXI := Lib.hid hxi2
      clear hxi2
      have hi5 : (i : Int) < 5 := by omega
      go_wp2_with (with_reducible refine wpE_load (o := ⟨some 17, _, _, _, _, _⟩) rfl 57 (.tmp 16) rfl 2 g2 59 (natsC y) (.array 5 55) (by with_unfolding_all rfl) (by with_unfolding_all rfl) Try.underlying57 rfl (sizeN Try.sz5p _ HYL.out) E.out ?_)
      go_loopw [18] (fun v wr => ∃ k : Nat, k ≤ 5 ∧ v = .int .i64 k ∧ Env w [(g4, 101, natsC (widesL (mulS x y (5 * i + k)))), (g3, 59, natsC zero5), (g2, 59, natsC y), (g1, 59, natsC x)] wr) (fun v _ => 5 - (intOf v).toNat)
      case atStart => exact ⟨0, by omega, rfl, E.out⟩
      case round =>
        clear E hix
        rename_i wr0 _ _ _
        obtain ⟨j, hj, rfl, hE⟩ := hrel
        have E := Lib.hid hE
        clear hE
        by_cases hltj : j < 5
        · have hiy := fun W => run_indexN (P := Try.prog) W 57 55 5 y j Try.underlying57 Try.underlying55 Try.szU64 HYL.out hltj
          have hyj := HYB.out j
          have hstep := mulS_step x y i j hltj
          rw [← HXI.out] at hstep
          generalize y.getD j 0 = yj at hiy hyj hstep
          have hnb := mulS_get x y HXB.out HYB.out (5 * i + j) (by omega) ((i + j) % 5)
          have hpart := widesL_part (mulS x y (5 * i + j)) ((i + j) % 5) (by rw [mulS_length]; omega)
          have hset := widesL_set (mulS x y (5 * i + j)) ((i + j) % 5) ((mulS x y (5 * i + j)).getD ((i + j) % 5) 0 + xi * (if i + j < 5 then yj else 19 * yj)) (by rw [mulS_length]; omega)
          rw [← hstep] at hset
          have hj5 : (j : Int) < 5 := by omega
          have hwl := HWL.out (5 * i + j)
          have HST := Lib.hid hstep
          generalize (mulS x y (5 * i + j)).getD ((i + j) % 5) 0 = n at hnb hpart hset
          by_cases hs : i + j < 5
          · rw [if_pos hs, Nat.mod_eq_of_lt hs] at hset
            rw [Nat.mod_eq_of_lt hs] at hpart
            have PC := Lib.hid (PL.out n xi yj hxi (by omega) hnb)
            have hw : IntKind.i64.wrap ((i : Int) + (j : Int)) = (i : Int) + (j : Int) := IntWalk.i64_in _ (by omega)
            have hsb : (i : Int) + (j : Int) < 5 := by omega
            obtain ⟨s, hs2⟩ : ∃ s, s = i + j := ⟨_, rfl⟩
            have hsum : (i : Int) + (j : Int) = (s : Int) := by omega
            rw [← hs2] at hset hpart hs
            rw [Nat.mul_comm 2 s] at hset hpart
            have HPART := Lib.hid hpart
            have HSET := Lib.hid hset
            have HW2 := Lib.hid hwl
            have hs5 : (s : Int) < 5 := by omega
            have hsn : s < 5 := by omega
            clear hpart hset hwl hs2 hstep
            go_wp2_with (first
              | (with_reducible refine wpE_loadN (o := ⟨some 33, _, _, _, _, _⟩) rfl 100 (.tmp 32) rfl 0 g4 (s * 2) 101 (widesL (mulS x y (5 * i + j))) (wideL n) _ (by with_unfolding_all rfl) (by with_unfolding_all rfl) (by with_unfolding_all exact HPART.out) Try.underlying100 rfl (by with_unfolding_all exact Try.sz2) E.out ?_)
              | ((with_reducible refine (PC.out _).mono ?_); rintro e w6 ⟨rfl, b6⟩; have E7 := Lib.hid (E.out.call b6); clear b6)
              | ((with_reducible refine wpE_storeN (o := ⟨none, _, _, _, _, _⟩) rfl 100 (.tmp 37) (.tmp 36) rfl 0 g4 (s * 2) 101 (widesL (mulS x y (5 * i + j))) (wideL (n + xi * yj)) (widesL (mulS x y (5 * i + (j + 1)))) (by with_unfolding_all rfl) (by with_unfolding_all rfl) (by with_unfolding_all rfl) (by rw [HW2.out, wideL_length]; omega) (by with_unfolding_all exact HSET.out) (by with_unfolding_all exact Try.sz2) E7.out ?_); intro w9 E9; have HE9 := Lib.hid E9; clear E9 E7))
            go_roundw
            case rel => exact ⟨j + 1, by omega, by go_num, HE9.out⟩
            case measure => simp [intOf]; omega
          · rw [if_neg hs] at hset
            have PC := Lib.hid (PL.out n xi (19 * yj) hxi (by omega) hnb)
            obtain ⟨s, hs2⟩ : ∃ s, s = (i + j) % 5 := ⟨_, rfl⟩
            have hge : ¬ (i : Int) + (j : Int) < 5 := by omega
            have hw : IntKind.i64.wrap ((i : Int) + (j : Int) - 5) = (s : Int) := by rw [IntWalk.i64_in _ (by omega)]; omega
            have hsum : (i : Int) + (j : Int) - 5 = (s : Int) := by omega
            obtain ⟨zj, hzj⟩ : ∃ v, v = 19 * yj := ⟨_, rfl⟩
            have hmul : 19 * (yj : Int) = (zj : Int) := by omega
            have hzl : zj < 18446744073709551616 := by omega
            rw [← hzj] at hset PC
            clear hzj
            rw [← hs2] at hset hpart
            rw [Nat.mul_comm 2 s] at hset hpart
            have HPART := Lib.hid hpart
            have HSET := Lib.hid hset
            have HW2 := Lib.hid hwl
            have hs5 : (s : Int) < 5 := by omega
            have hsn : s < 5 := by omega
            clear hpart hset hwl hs2 hstep
            go_wp2_with (first
              | (with_reducible refine wpE_loadN (o := ⟨some 47, _, _, _, _, _⟩) rfl 100 (.tmp 46) rfl 0 g4 (s * 2) 101 (widesL (mulS x y (5 * i + j))) (wideL n) _ (by with_unfolding_all rfl) (by with_unfolding_all rfl) (by with_unfolding_all exact HPART.out) Try.underlying100 rfl (by with_unfolding_all exact Try.sz2) E.out ?_)
              | ((with_reducible refine (PC.out _).mono ?_); rintro e w6 ⟨rfl, b6⟩; have E7 := Lib.hid (E.out.call b6); clear b6)
              | ((with_reducible refine wpE_storeN (o := ⟨none, _, _, _, _, _⟩) rfl 100 (.tmp 52) (.tmp 51) rfl 0 g4 (s * 2) 101 (widesL (mulS x y (5 * i + j))) (wideL (n + xi * zj)) (widesL (mulS x y (5 * i + (j + 1)))) (by with_unfolding_all rfl) (by with_unfolding_all rfl) (by with_unfolding_all rfl) (by rw [HW2.out, wideL_length]; omega) (by with_unfolding_all exact HSET.out) (by with_unfolding_all exact Try.sz2) E7.out ?_); intro w9 E9; have HE9 := Lib.hid E9; clear E9 E7))
            go_roundw
            case rel => exact ⟨j + 1, by omega, by go_num, HE9.out⟩
            case measure => simp [intOf]; omega
        · have hj5 : j = 5 := by omega
          have E5 := E.out
          rw [hj5, show 5 * i + 5 = 5 * (i + 1) by omega] at E5
          have E6 := Lib.hid E5
          clear E5 E hj5
          go_wp2
          go_roundw
          case rel => exact ⟨i + 1, by omega, by go_num, E6.out⟩
          case measure => simp [intOf]; omega
    · have hi5 : i = 5 := by omega
      have E5 := E.out
      rw [hi5, show 5 * 5 = 25 from rfl, ← HZ.out] at E5
      have E6 := Lib.hid E5
      have HWZ : Hid ((widesL z).length = 10) := by show _ = _; rw [HZ.out]; exact HWL.out 25
      clear E5 E hi5
      go_wp2_with (first
        | (with_reducible refine wpE_load (o := ⟨some 55, _, _, _, _, _⟩) rfl 101 (.tmp 5) rfl 0 g4 101 (natsC (widesL z)) _ (by with_unfolding_all rfl) (by with_unfolding_all rfl) Try.underlying101 rfl (sizeN Try.sz10 _ HWZ.out) E6.out ?_)
        | ((with_reducible refine (N.out _).mono ?_); rintro e w6 ⟨rfl, b6⟩; have E7 := E6.out.call b6)
        | ((with_reducible refine (R.out _).mono ?_); rintro e w7 ⟨rfl, b7⟩; have E8 := E7.call b7)
        | ((with_reducible refine wpE_store (o := ⟨none, _, _, _, _, _⟩) rfl 59 (.tmp 4) (.tmp 57) rfl 1 g3 59 (natsC zero5) (natsC (elemL (a * b % pF))) (by with_unfolding_all rfl) (by with_unfolding_all rfl) (by with_unfolding_all rfl) (natsC_same zero5_length (elemL_length _)) (sizeN Try.sz5e _ (elemL_length _)) (natsC_one _) E8 ?_); intro w9 E9))
      exact bodyPost_ret (results_cell_row rfl _ _ g3 59 (natsC (elemL (a * b % pF))) (0, 0) _ rfl (E9.row 1 rfl) Try.underlying59 rfl (sizeN Try.sz5e _ (elemL_length _))) rfl (E9.ret _)
end Go.Proofs.Ythipdfmaaeoijaa
end
section
namespace Go.Proofs.Ythipdfmaaeoijaa
open Go.RowKit
set_option linter.unusedVariables false
set_option maxRecDepth 20000

theorem small_elem (n : Nat) (hn : n < 18446744073709551616) : [n % 2251799813685248, n / 2251799813685248, 0, 0, 0] = elemL n := by
  unfold elemL
  rw [digL5]
  simp only [List.cons.injEq, and_true]
  unfold Mx
  omega
theorem smallV (a b : Nat) : Value.agg #[.int .u64 (a : Int), .int .u64 (b : Int), .int .u64 0, .int .u64 0, .int .u64 0] = .agg (natsC [a, b, 0, 0, 0]) := rfl
theorem small_length (a b : Nat) : [a, b, 0, 0, 0].length = 5 := rfl

set_option maxHeartbeats 1000000 in
theorem Small_any (n : Nat) (hn : n < 18446744073709551616) (w : World) :
    Calls Try.prog 33 #[.int .u64 (n : Int)] w (RetV w (.agg (natsC (elemL n)))) := by
  have he := small_elem n hn
  have hand := and51 n hn
  obtain ⟨a, ha⟩ : ∃ a, a = n % 2251799813685248 := ⟨_, rfl⟩
  obtain ⟨b, hb⟩ : ∃ b, b = n / 2251799813685248 := ⟨_, rfl⟩
  have hdiv : (n : Int) / 2251799813685248 = (b : Int) := by omega
  rw [← ha, ← hb] at he
  rw [← ha] at hand
  rw [← he]
  clear ha hb he
  have E0 := Env.start w
  go_enter Try.func33, Try.ntmps33
  go_wp2_with (first
    | ((with_reducible refine wpE_alloc (o := ⟨some 2, _, _, _, _, _⟩) rfl 59 rfl (natsC zero5) Try.zero5e E0 ?_); intro g1 w1 E1)
    | ((with_reducible refine wpE_store (o := ⟨none, _, _, _, _, _⟩) rfl 59 (.tmp 2) (.tmp 8) rfl 0 g1 59 (natsC zero5) (natsC [a, b, 0, 0, 0]) (by with_unfolding_all rfl) (by with_unfolding_all rfl) (by with_unfolding_all exact smallV a b) (natsC_same zero5_length (small_length a b)) (sizeN Try.sz5e _ (small_length a b)) (natsC_one _) E1 ?_); intro w9 E9))
  exact bodyPost_ret (results_cell_row rfl _ _ g1 59 (natsC [a, b, 0, 0, 0]) (0, 0) _ rfl (E9.row 0 rfl) Try.underlying59 rfl (sizeN Try.sz5e _ (small_length a b))) rfl (E9.ret _)
end Go.Proofs.Ythipdfmaaeoijaa
end
