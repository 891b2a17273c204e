/-
  Contract of the field's narrowed. Conditions: as the theorem names them.
-/
import Derived.Test.YtpgjcmccfpjmoaaFieldC
namespace Go.Proofs.Ytpgjcmccfpjmoaa
open Go.RowKit
set_option linter.unusedVariables false
set_option maxRecDepth 20000

theorem low_digit (s : Nat) : s % 18446744073709551616 % 2251799813685248 = s % Mx := by unfold Mx; omega
theorem shift_digit (s : Nat) : s / 18446744073709551616 * 8192 + s % 18446744073709551616 / 2251799813685248 = s / Mx := by unfold Mx; omega

set_option maxHeartbeats 2000000 in
theorem narrowed_any (ws : List Nat) (hl : ws.length = 5) (hB : ∀ x ∈ ws, x < 5192296858534827628530496329220096) (h5 : cyC ws 5 < 288230376151711744) (w : World) :
    Calls Try.prog 58 #[.agg (natsC (widesL ws))] w (RetV w (.agg (natsC (carriedL ws)))) := by
  have HL := Lib.hid hl
  have HB := Lib.hid hB
  have H5 := Lib.hid h5
  have hwl : (widesL ws).length = 10 := by rw [widesL_length, hl]
  have HW := Lib.hid hwl
  have P1 : Hid (∀ (n a : Nat), a < 18446744073709551616 → n + a < 340282366920938463463374607431768211456 → ∀ w, Calls Try.prog 57 #[.agg (natsC (wideL n)), .int .u64 (a : Int), .int .u64 1] w (RetV w (.agg (natsC (wideL (n + a)))))) := fun n a ha hn w => by
    have := plus_any n a 1 ha (by omega) (by omega) w
    rwa [Nat.mul_one] at this
  clear hl hB h5 hwl
  have E0 := Env.start w
  go_enter Try.func58, Try.ntmps58
  go_wp2_with (first
    | ((with_reducible refine wpE_box (o := ⟨some 1, _, _, _, _, _⟩) rfl 97 (.tmp 0) rfl (natsC (widesL ws)) (by with_unfolding_all rfl) E0 ?_); intro g1 w1 E1)
    | ((with_reducible refine wpE_alloc (o := ⟨some 2, _, _, _, _, _⟩) rfl 43 rfl (natsC zero5) Try.zero5p E1 ?_); intro g2 w2 E2)
    | ((with_reducible refine wpE_alloc (o := ⟨some 3, _, _, _, _, _⟩) rfl 43 rfl (natsC zero5) Try.zero5p E2 ?_); intro g3 w3 E3)
    | (with_reducible refine wpE_load (o := ⟨some 7, _, _, _, _, _⟩) rfl 97 (.tmp 1) rfl 2 g1 97 (natsC (widesL ws)) _ (by with_unfolding_all rfl) (by with_unfolding_all rfl) Try.underlying97 rfl (sizeN Try.sz10 _ HW.out) E3 ?_))
  have E4 := Lib.hid E3
  clear E0 E1 E2 E3
  go_loopw [4, 8] (fun c i wr => ∃ k : Nat, k ≤ 5 ∧ i = .int .i64 k ∧ c = .int .u64 ((cyC ws k : Nat) : Int) ∧ Env w [(g3, 43, natsC (stN ws k)), (g2, 43, natsC zero5)] wr) (fun _ i _ => 5 - (intOf i).toNat)
  case atStart => exact ⟨0, by omega, rfl, by rw [cyC_zero]; rfl, E4.out.less (by simp [stN, digL, zero5, List.replicate])⟩
  case round =>
    clear E4
    obtain ⟨k, hk, rfl, rfl, hE⟩ := hrel
    have E := Lib.hid hE
    clear hE
    by_cases hlt : k < 5
    · have hix := fun W => index_wide W ws HL.out k hlt
      have hx := getD_lt HB.out (by omega) k
      have hc := cyC_lt ws _ HB.out (by omega) k (by rw [HL.out]; omega)
      have hc2 : cyC ws k < 4611686018427387904 := by unfold Mx at hc; omega
      have hstep := stN_step ws HL.out k hlt
      have hcy := cyC_succ ws k (by rw [HL.out]; omega)
      have hsl := stN_length ws k hk
      generalize ws.getD k 0 = x at hix hx hstep hcy
      generalize cyC ws k = c at hc2 hstep hcy ⊢
      have C1 := Lib.hid (P1.out x c (by omega) (by omega))
      obtain ⟨s, hs⟩ : ∃ s, s = x + c := ⟨_, rfl⟩
      rw [← hs] at C1 hstep hcy
      have hsl2 : s < 10384593717069655257060992658440192 := by omega
      obtain ⟨c', hc'⟩ : ∃ c', c' = cyC ws (k + 1) := ⟨_, rfl⟩
      rw [← hc'] at hcy
      have HC := Lib.hid hc'
      obtain ⟨hi, hhi⟩ : ∃ h, h = s / 18446744073709551616 := ⟨_, rfl⟩
      obtain ⟨lo, hlo⟩ : ∃ h, h = s % 18446744073709551616 := ⟨_, rfl⟩
      have hwd : wideL s = [hi, lo] := by unfold wideL; rw [← hhi, ← hlo]
      rw [hwd] at C1
      have hand := and51 lo (by omega)
      have hd : lo % 2251799813685248 = s % Mx := by rw [hlo]; exact low_digit s
      rw [hd] at hand
      rw [← hd] at hstep
      have hor := or64r (lo / 2251799813685248) (hi * 8192) 13 (by omega) (by omega) (by omega) (by omega)
      have hcc : lo / 2251799813685248 + hi * 8192 = c' := by rw [hcy, hhi, hlo]; have := shift_digit s; omega
      rw [hcc] at hor
      have hhb : hi < 562949953421312 := by omega
      have hlb : lo < 18446744073709551616 := by omega
      obtain ⟨q, hq⟩ : ∃ q, q = lo / 2251799813685248 := ⟨_, rfl⟩
      have hq1 : (lo : Int) / 2251799813685248 = (q : Int) := by omega
      obtain ⟨r, hr⟩ : ∃ r, r = hi * 8192 := ⟨_, rfl⟩
      have hr1 : (hi : Int) * 8192 = (r : Int) := by omega
      have hrl : r < 18446744073709551616 := by omega
      rw [← hq, ← hr] at hor
      obtain ⟨y, hy⟩ : ∃ y, y = s % Mx := ⟨_, rfl⟩
      rw [hd] at hstep
      rw [← hy] at hand hstep
      have HS := Lib.hid hstep
      have HSL := Lib.hid hsl
      have hk5 : (k : Int) < 5 := by omega
      clear hs hc' hhi hlo hwd hd hcc hq hr hy hstep hcy hsl hc hsl2 hx hc2
      go_wp2_with (first
        | ((with_reducible refine wpE_alloc (o := ⟨some 6, _, _, _, _, _⟩) rfl 96 rfl (natsC [0, 0]) Try.zero2 E.out ?_); intro g4 w4 E5)
        | ((with_reducible refine wpE_store (o := ⟨none, _, _, _, _, _⟩) rfl 96 (.tmp 6) (.tmp 11) rfl 0 g4 96 (natsC [0, 0]) (natsC (wideL x)) (by with_unfolding_all rfl) (by with_unfolding_all rfl) (by with_unfolding_all rfl) (natsC_same (two_length 0 0) (wideL_length x)) (sizeN Try.sz2 _ (wideL_length x)) (natsC_one _) E5 ?_); intro w5 E6; simp only [List.set_cons_zero] at E6; clear E5)
        | (with_reducible refine wpE_load (o := ⟨some 12, _, _, _, _, _⟩) rfl 96 (.tmp 6) rfl 0 g4 96 (natsC (wideL x)) _ (by with_unfolding_all rfl) (by with_unfolding_all rfl) Try.underlying96 rfl (sizeN Try.sz2 _ (wideL_length x)) E6 ?_)
        | ((with_reducible refine (C1.out _).mono ?_); rintro e w6 ⟨rfl, b6⟩; have E7 := Lib.hid (E6.call b6); clear b6 E6)
        | ((with_reducible refine wpE_store (o := ⟨none, _, _, _, _, _⟩) rfl 96 (.tmp 6) (.tmp 14) rfl 0 g4 96 (natsC (wideL x)) (natsC [hi, lo]) (by with_unfolding_all rfl) (by with_unfolding_all rfl) (by with_unfolding_all rfl) (natsC_same (wideL_length x) (two_length hi lo)) (sizeN Try.sz2 _ (two_length hi lo)) (natsC_one _) E7.out ?_); intro w7 E8; simp only [List.set_cons_zero] at E8; clear E7; have c1 := E8.getN 0 rfl 0 (by simp); have c2 := E8.getN 0 rfl 1 (by simp); simp only [List.getD_cons_zero, List.getD_cons_succ] at c1 c2; have c3 := E8.getN 1 rfl k (by rw [HSL.out]; exact hlt); have f3 := E8.fzN 1 rfl k; generalize (stN ws k).getD k 0 = old at c3; have E9 := E8.cellN 1 rfl k y; simp only [List.set_cons_zero, List.set_cons_succ] at E9; rw [HS.out] at E9; have c4 := E9.getN 0 rfl 0 (by simp); have c5 := E9.getN 0 rfl 1 (by simp); simp only [List.getD_cons_zero, List.getD_cons_succ] at c4 c5; have HE9 := Lib.hid (E9.less (List.sublist_cons_self _ _)); clear E9 E8))
      go_roundw
      case rel => exact ⟨k + 1, by omega, by go_num, by rw [HC.out], HE9.out⟩
      case measure => simp [intOf]; omega
    · have hk5 : k = 5 := by omega
      have e1 : stN ws k = digL 5 (valL ws) := by
        rw [hk5]
        unfold stN
        rw [List.take_of_length_le (by rw [HL.out]; omega)]
        simp
      have e2 : cyC ws k = valL ws / Mx ^ 5 := by rw [hk5]; unfold cyC; rw [List.take_of_length_le (by rw [HL.out]; omega)]
      have hsl : (stN ws k).length = 5 := by rw [e1, digL_length]
      have hfin : (stN ws k).set 0 ((stN ws k).getD 0 0 + 19 * cyC ws k) = carriedL ws := by rw [e1, e2]; rfl
      have c1 := E.out.getN 0 rfl 0 (by rw [hsl]; omega)
      have f1 := E.out.fzN 0 rfl 0
      have hd2 : (stN ws k).getD 0 0 < 2251799813685248 := by rw [e1]; exact getD_lt (digL_lt 5 _) Mx_pos 0
      have hc2 : cyC ws k < 288230376151711744 := by rw [hk5]; exact H5.out
      have E3 := E.out.cellN 0 rfl 0 ((stN ws k).getD 0 0 + 19 * cyC ws k)
      simp only [List.set_cons_zero] at E3
      rw [hfin] at E3
      have HE := Lib.hid E3
      clear E3 E hfin hsl e1 e2 hk5
      generalize (stN ws k).getD 0 0 = x at c1 hd2 HE
      generalize cyC ws k = c at hc2 HE ⊢
      have hx : x + 19 * c < 18446744073709551616 := by omega
      obtain ⟨s, hs⟩ : ∃ s, s = x + 19 * c := ⟨_, rfl⟩
      have hsum : (x : Int) + 19 * (c : Int) = (s : Int) := by omega
      rw [← hs] at HE hx
      clear hs
      go_wp2_with (first
        | (with_reducible refine wpE_load (o := ⟨some 34, _, _, _, _, _⟩) rfl 43 (.tmp 3) rfl 0 g3 43 (natsC (carriedL ws)) (.array 5 39) (by with_unfolding_all rfl) (by with_unfolding_all rfl) Try.underlying43 rfl (sizeN Try.sz5p _ (carriedL_length ws)) HE.out ?_)
        | ((with_reducible refine wpE_store (o := ⟨none, _, _, _, _, _⟩) rfl 43 (.tmp 2) (.tmp 34) rfl 1 g2 43 (natsC zero5) (natsC (carriedL ws)) (by with_unfolding_all rfl) (by with_unfolding_all rfl) (by with_unfolding_all rfl) (natsC_same zero5_length (carriedL_length ws)) (sizeN Try.sz5p _ (carriedL_length ws)) (natsC_one _) HE.out ?_); intro w9 E9))
      exact bodyPost_ret (results_cell_row rfl _ _ g2 43 (natsC (carriedL ws)) (0, 0) (.array 5 39) rfl (E9.row 1 rfl) Try.underlying43 rfl (sizeN Try.sz5p _ (carriedL_length ws))) rfl (E9.ret _)
end Go.Proofs.Ytpgjcmccfpjmoaa
