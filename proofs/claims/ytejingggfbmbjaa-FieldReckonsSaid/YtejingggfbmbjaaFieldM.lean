/-
  Contracts of the law's own awake and of (layer 6). Conditions: as each theorem names them.
-/
import Derived.Test.YtejingggfbmbjaaFieldL
namespace Go.Proofs.Ytejingggfbmbjaa
open Go.RowKit
set_option linter.unusedVariables false
set_option maxRecDepth 20000

set_option maxHeartbeats 1000000 in
theorem of_any (key : List UInt8) (hk : key.length = 32) (w : World) :
    Calls Try.prog 19 #[.agg (keyC key)] w (RetV w (.agg (natsC (elemL (numK key))))) := by
  have HO : Hid (∀ w, Calls Try.prog 12 #[.agg (keyC key)] w (RetV w (.tuple #[.agg (natsC (elemL (numK key))), .bool (decide (ofLowB key < pF))]))) := fun w => Of_any key hk w
  generalize decide (ofLowB key < pF) = b at HO
  generalize numK key = n at HO ⊢
  have HK := Lib.hid hk
  clear hk
  have E0 := Env.start w
  go_enter Try.func19, Try.ntmps19
  go_wp2_with (first
    | ((with_reducible refine wpE_box (o := ⟨some 1, _, _, _, _, _⟩) rfl 23 (.tmp 0) rfl (keyC (key)) (by with_unfolding_all rfl) E0 ?_); intro g1 w1 E1)
    | ((with_reducible refine wpE_alloc (o := ⟨some 2, _, _, _, _, _⟩) rfl 29 rfl (natsC (zero5)) Try.zero5e E1 ?_); intro g2 w2 E2)
    | (with_reducible refine wpE_load (o := ⟨some 6, _, _, _, _, _⟩) rfl 23 (.tmp 1) rfl 1 g1 23 (keyC (key)) _ (by with_unfolding_all rfl) (by with_unfolding_all rfl) Try.underlying23 rfl (Try.sizeKey _ HK.out) E2 ?_)
    | ((with_reducible refine (HO.out _).mono ?_); rintro e w3 ⟨rfl, b_w3⟩; have E3 := E2.call b_w3; clear b_w3)
    | ((with_reducible refine wpE_alloc (o := ⟨some 3, _, _, _, _, _⟩) rfl 29 rfl (natsC (zero5)) Try.zero5e E3 ?_); intro g3 w4 E4)
    | ((with_reducible refine wpE_store (o := ⟨none, _, _, _, _, _⟩) rfl 29 (.tmp 3) (.tmp 8) rfl 0 g3 29 (natsC (zero5)) (natsC (elemL n)) (by with_unfolding_all rfl) (by with_unfolding_all rfl) (by with_unfolding_all rfl) (natsC_same zero5_length (elemL_length _)) (sizeN Try.sz5e _ (elemL_length _)) (natsC_one _) E4 ?_); intro w5 E5; simp only [List.set_cons_zero] at E5)
    | (with_reducible refine wpE_load (o := ⟨some 10, _, _, _, _, _⟩) rfl 29 (.tmp 3) rfl 0 g3 29 (natsC (elemL n)) _ (by with_unfolding_all rfl) (by with_unfolding_all rfl) Try.underlying29 rfl (sizeN Try.sz5e _ (elemL_length _)) E5 ?_)
    | ((with_reducible refine wpE_store (o := ⟨none, _, _, _, _, _⟩) rfl 29 (.tmp 2) (.tmp 10) rfl 1 g2 29 (natsC (zero5)) (natsC (elemL n)) (by with_unfolding_all rfl) (by with_unfolding_all rfl) (by with_unfolding_all rfl) (natsC_same zero5_length (elemL_length _)) (sizeN Try.sz5e _ (elemL_length _)) (natsC_one _) E5 ?_); intro w6 E6; simp only [List.set_cons_zero, List.set_cons_succ] at E6))
  exact bodyPost_ret (results_cell_row rfl _ _ g2 29 (natsC (elemL n)) (0, 0) _ rfl (E6.row 1 rfl) Try.underlying29 rfl (sizeN Try.sz5e _ (elemL_length _))) rfl (E6.ret _)

/-- Bytes 255, and zeros behind them. -/
def ffB (k : Nat) : List UInt8 := List.replicate k 255 ++ List.replicate (32 - k) 0
theorem ffB_length (k : Nat) (h : k ≤ 32) : (ffB k).length = 32 := by simp [ffB]; omega
theorem ffB_step (k : Nat) (h : k < 32) : (ffB k).set k 255 = ffB (k + 1) := by
  unfold ffB
  rw [List.set_append_right _ _ (by simp), List.length_replicate, Nat.sub_self, show 32 - k = (32 - (k + 1)) + 1 by omega, List.replicate_succ, List.set_cons_zero, List.replicate_succ']
  simp
theorem all_num : numK (ffB 32) = 18 := by decide +kernel
theorem all_more : decide (ofLowB (ffB 32) < pF) = false := by decide +kernel
theorem less_num : subF 0 1 = pF - 1 := by decide +kernel
theorem less_bytes : lowB (pF - 1) 32 = [236] ++ List.replicate 30 255 ++ [127] := by decide +kernel
theorem less_whole : decide (ofLowB (lowB (pF - 1) 32) < pF) = true := by decide +kernel
/-- a to the power n, by halving: what the kernel can reckon. -/
def powFast (a n : Nat) : Nat → Nat
  | 0 => 1
  | f + 1 => if n = 0 then 1 else if n % 2 = 1 then a * powFast (a * a % pF) (n / 2) f % pF else powFast (a * a % pF) (n / 2) f % pF
theorem powFast_eq (f : Nat) : ∀ a n, n < 2 ^ f → powFast a n f % pF = powF a n := by
  induction f with
  | zero => intro a n h; simp at h; subst h; simp [powFast, powF]
  | succ f ih =>
    intro a n h
    unfold powFast
    have hp : powF (a * a % pF) (n / 2) = a ^ (2 * (n / 2)) % pF := by
      unfold powF
      rw [← Nat.pow_mod, Nat.pow_mul, Nat.pow_two]
    split
    · rename_i h0; subst h0; simp [powF]
    · have hn : n / 2 < 2 ^ f := by rw [Nat.pow_succ] at h; omega
      have hi := ih (a * a % pF) (n / 2) hn
      split
      · rename_i h1
        rw [Nat.mod_mod, Nat.mul_mod, hi, hp]
        unfold powF
        rw [← Nat.mul_mod, ← Nat.pow_succ', show (2 * (n / 2)).succ = n by omega]
      · rename_i h1
        rw [Nat.mod_mod, hi, hp, show 2 * (n / 2) = n by omega]
        rfl
theorem two_inv : invF 2 * 2 % pF = 1 := by
  have h : invF 2 = powFast 2 (pF - 2) 255 % pF := (powFast_eq 255 2 (pF - 2) (by decide +kernel)).symm
  rw [h]
  decide +kernel

set_option maxHeartbeats 2000000 in
theorem awake_any (w : World) : Calls Try.prog 11 #[] w (RetV w (.bool true)) := by
  have hlt : pF - 1 < pF := by decide
  have hi2 : invF 2 < pF := invF_lt 2
  have S0 : Hid (∀ w, Calls Try.prog 14 #[.int .u64 0] w (RetV w (.agg (natsC (elemL 0))))) := fun w => Small_any 0 (by omega) w
  have S1 : Hid (∀ w, Calls Try.prog 14 #[.int .u64 1] w (RetV w (.agg (natsC (elemL 1))))) := fun w => Small_any 1 (by omega) w
  have S2 : Hid (∀ w, Calls Try.prog 14 #[.int .u64 2] w (RetV w (.agg (natsC (elemL 2))))) := fun w => Small_any 2 (by omega) w
  have S18 : Hid (∀ w, Calls Try.prog 14 #[.int .u64 18] w (RetV w (.agg (natsC (elemL 18))))) := fun w => Small_any 18 (by omega) w
  have HS : Hid (∀ w, Calls Try.prog 21 #[.agg (natsC (elemL 0)), .agg (natsC (elemL 1))] w (RetV w (.agg (natsC (elemL (pF - 1)))))) := fun w => by
    have h := Sub_any 0 1 (by decide) (by decide) w
    rwa [less_num] at h
  have HK : Hid (∀ w, Calls Try.prog 16 #[.agg (natsC (elemL (pF - 1)))] w (RetV w (.agg (keyC (lowB (pF - 1) 32))))) := fun w => Key_any (pF - 1) hlt w
  have HO1 : Hid (∀ w, Calls Try.prog 12 #[.agg (keyC (lowB (pF - 1) 32))] w (RetV w (.tuple #[.agg (natsC (elemL (numK (lowB (pF - 1) 32)))), .bool true]))) := fun w => by
    have h := Of_any (lowB (pF - 1) 32) (lowB_length _ _) w
    rw [less_whole] at h
    exact h
  have HO2 : Hid (∀ w, Calls Try.prog 12 #[.agg (keyC (ffB 32))] w (RetV w (.tuple #[.agg (natsC (elemL 18)), .bool false]))) := fun w => by
    have h := Of_any (ffB 32) (ffB_length 32 (Nat.le_refl _)) w
    rw [all_more, all_num] at h
    exact h
  have HE1 : Hid (∀ w, Calls Try.prog 26 #[.agg (natsC (elemL 18)), .agg (natsC (elemL 18))] w (RetV w (.bool true))) := fun w => Equal_any 18 18 (by decide) (by decide) w
  have HI : Hid (∀ w, Calls Try.prog 29 #[.agg (natsC (elemL 2))] w (RetV w (.agg (natsC (elemL (invF 2)))))) := fun w => Invert_any 2 (by decide) w
  have HM : Hid (∀ w, Calls Try.prog 22 #[.agg (natsC (elemL (invF 2))), .agg (natsC (elemL 2))] w (RetV w (.agg (natsC (elemL 1))))) := fun w => by
    have h := Mul_any (invF 2) 2 hi2 (by decide) w
    rwa [two_inv] at h
  have HE2 : Hid (∀ w, Calls Try.prog 26 #[.agg (natsC (elemL 1)), .agg (natsC (elemL 1))] w (RetV w (.bool true))) := fun w => Equal_any 1 1 (by decide) (by decide) w
  have HB : Hid (lowB (pF - 1) 32 = [236] ++ List.replicate 30 255 ++ [127]) := less_bytes
  have HBL : Hid ((lowB (pF - 1) 32).length = 32) := lowB_length _ _
  clear hlt hi2
  generalize numK (lowB (pF - 1) 32) = n1 at HO1
  generalize lowB (pF - 1) 32 = b1 at HK HO1 HB HBL
  generalize elemL (pF - 1) = x1 at HS HK
  generalize invF 2 = i2 at HI HM
  have E0 := Env.start w
  go_enter Try.func11, Try.ntmps11
  go_wp2_with (first
    | ((with_reducible refine (S0.out _).mono ?_); rintro e w1 ⟨rfl, b_w1⟩; have E1 := E0.call b_w1; clear b_w1)
    | ((with_reducible refine (S1.out _).mono ?_); rintro e w2 ⟨rfl, b_w2⟩; have E2 := E1.call b_w2; clear b_w2)
    | ((with_reducible refine (HS.out _).mono ?_); rintro e w3 ⟨rfl, b_w3⟩; have E3 := E2.call b_w3; clear b_w3)
    | ((with_reducible refine (HK.out _).mono ?_); rintro e w4 ⟨rfl, b_w4⟩; have E4 := E3.call b_w4; clear b_w4)
    | ((with_reducible refine wpE_alloc (o := ⟨some 1, _, _, _, _, _⟩) rfl 23 rfl (keyC (zeroKey)) Try.zeroK E4 ?_); intro g1 w5 E5)
    | ((with_reducible refine wpE_store (o := ⟨none, _, _, _, _, _⟩) rfl 23 (.tmp 1) (.tmp 13) rfl 0 g1 23 (keyC (zeroKey)) (keyC (b1)) (by with_unfolding_all rfl) (by with_unfolding_all rfl) (by with_unfolding_all rfl) (keyC_same zeroKey_length HBL.out) (Try.sizeKey _ HBL.out) (keyC_one _) E5 ?_); intro w6 E6; simp only [List.set_cons_zero] at E6)
    | (with_reducible refine wpE_load (o := ⟨some 15, _, _, _, _, _⟩) rfl 23 (.tmp 1) rfl 0 g1 23 (keyC (b1)) _ (by with_unfolding_all rfl) (by with_unfolding_all rfl) Try.underlying23 rfl (Try.sizeKey _ HBL.out) E6 ?_)
    | ((with_reducible refine (HO1.out _).mono ?_); rintro e w7 ⟨rfl, b_w7⟩; have E7 := E6.call b_w7; clear b_w7)
    | ((with_reducible refine wpE_alloc (o := ⟨some 2, _, _, _, _, _⟩) rfl 29 rfl (natsC (zero5)) Try.zero5e E7 ?_); intro g2 w8 E8)
    | ((with_reducible refine wpE_store (o := ⟨none, _, _, _, _, _⟩) rfl 29 (.tmp 2) (.tmp 17) rfl 0 g2 29 (natsC (zero5)) (natsC (elemL n1)) (by with_unfolding_all rfl) (by with_unfolding_all rfl) (by with_unfolding_all rfl) (natsC_same zero5_length (elemL_length _)) (sizeN Try.sz5e _ (elemL_length _)) (natsC_one _) E8 ?_); intro w9 E9; simp only [List.set_cons_zero] at E9)
    | ((with_reducible refine wpE_alloc (o := ⟨some 4, _, _, _, _, _⟩) rfl 23 rfl (keyC (zeroKey)) Try.zeroK E9 ?_); intro g3 w10 E10)
    | ((with_reducible refine wpE_store (o := ⟨none, _, _, _, _, _⟩) rfl 23 (.tmp 4) (.tmp 19) rfl 0 g3 23 (keyC (zeroKey)) (keyC (zeroKey)) (by with_unfolding_all rfl) (by with_unfolding_all rfl) (by with_unfolding_all exact congrArg Value.agg zeroLit) (keyC_same zeroKey_length zeroKey_length) (Try.sizeKey _ zeroKey_length) (keyC_one _) E10 ?_); intro w11 E11; simp only [List.set_cons_zero] at E11))
  have E12 := Lib.hid E11
  clear E0 E1 E2 E3 E4 E5 E6 E7 E8 E9 E10 E11
  go_loopw [5] (fun i wr => ∃ k : Nat, k ≤ 32 ∧ i = .int .i64 k ∧ Env w [(g3, 23, keyC (ffB k)), (g2, 29, natsC (elemL n1)), (g1, 23, keyC b1)] wr) (fun i _ => 32 - (intOf i).toNat)
  case atStart => exact ⟨0, by omega, rfl, E12.out⟩
  case round =>
    clear E12
    obtain ⟨k, hk, rfl, hE⟩ := hrel
    have E := Lib.hid hE
    clear hE
    by_cases hlt : k < 32
    · have hc := bytesC_cell (E.out.row 0 rfl) k (by rw [ffB_length k hk]; exact hlt)
      generalize ((ffB k)[k]'(by rw [ffB_length k hk]; exact hlt)).toNat = old at hc
      have hf := E.out.fzN 0 rfl k
      have E2 := E.out.cellTo 0 rfl k (.int .u8 255) (bytesC_put (ffB k) k 255)
      simp only [List.set_cons_zero] at E2
      rw [ffB_step k hlt] at E2
      have HE := Lib.hid E2
      have hk5 : (k : Int) < 32 := by omega
      clear E2 E
      go_wp2
      go_roundw
      case rel => exact ⟨k + 1, by omega, by go_num, HE.out⟩
      case measure => simp [intOf]; omega
    · have hk32 : k = 32 := by omega
      have E2 := E.out
      rw [hk32] at E2
      have E3 := Lib.hid E2
      have HFL : Hid ((ffB 32).length = 32) := ffB_length 32 (Nat.le_refl _)
      clear E2 E hk32
      generalize ffB 32 = ff at HO2 E3 HFL
      go_wp2_with (first
        | (with_reducible refine wpE_load (o := ⟨some 27, _, _, _, _, _⟩) rfl 23 (.tmp 4) rfl 0 g3 23 (keyC (ff)) _ (by with_unfolding_all rfl) (by with_unfolding_all rfl) Try.underlying23 rfl (Try.sizeKey _ HFL.out) E3.out ?_)
        | ((with_reducible refine (HO2.out _).mono ?_); rintro e w13 ⟨rfl, b_w13⟩; have E13 := E3.out.call b_w13; clear b_w13)
        | ((with_reducible refine wpE_alloc (o := ⟨some 6, _, _, _, _, _⟩) rfl 29 rfl (natsC (zero5)) Try.zero5e E13 ?_); intro g4 w14 E14)
        | ((with_reducible refine wpE_store (o := ⟨none, _, _, _, _, _⟩) rfl 29 (.tmp 6) (.tmp 29) rfl 0 g4 29 (natsC (zero5)) (natsC (elemL 18)) (by with_unfolding_all rfl) (by with_unfolding_all rfl) (by with_unfolding_all rfl) (natsC_same zero5_length (elemL_length _)) (sizeN Try.sz5e _ (elemL_length _)) (natsC_one _) E14 ?_); intro w15 E15; simp only [List.set_cons_zero] at E15))
      refine region_class _ E15.drew (by kernel_rfl) (by kernel_rfl) ?_
      refine qE_load (by rfl) _ (.tmp 6) rfl 0 g4 29 (natsC (elemL 18)) _ rfl rfl Try.underlying29 rfl (sizeN Try.sz5e _ (elemL_length _)) ?_
      simp only [Act.put, List.setIfInBounds_toArray, List.set_cons_zero, List.set_cons_succ]
      refine q_call (by rfl) 14 _ (fun W => by go_simp) (fun W hW => hW.calls (S18.out W)) ?_
      simp only [Act.put, List.setIfInBounds_toArray, List.set_cons_zero, List.set_cons_succ]
      refine q_call (by rfl) 26 _ (fun W => by go_simp) (fun W hW => hW.calls (HE1.out W)) ?_
      simp only [Act.put, List.setIfInBounds_toArray, List.set_cons_zero, List.set_cons_succ]
      refine q_run (by rfl) (v := .bool true) (fun W _ => by go_simp) ?_
      simp only [Act.put, List.setIfInBounds_toArray, List.set_cons_zero, List.set_cons_succ]
      refine wpQuiet_nil ?_
      intro w16 E16
      go_wp2_with (first
        | ((with_reducible refine (S2.out _).mono ?_); rintro e w17 ⟨rfl, b_w17⟩; have E17 := E16.call b_w17; clear b_w17)
        | ((with_reducible refine (HI.out _).mono ?_); rintro e w18 ⟨rfl, b_w18⟩; have E18 := E17.call b_w18; clear b_w18)
        | ((with_reducible refine (S2.out _).mono ?_); rintro e w19 ⟨rfl, b_w19⟩; have E19 := E18.call b_w19; clear b_w19)
        | ((with_reducible refine (HM.out _).mono ?_); rintro e w20 ⟨rfl, b_w20⟩; have E20 := E19.call b_w20; clear b_w20)
        | ((with_reducible refine (S1.out _).mono ?_); rintro e w21 ⟨rfl, b_w21⟩; have E21 := E20.call b_w21; clear b_w21)
        | ((with_reducible refine (HE2.out _).mono ?_); rintro e w22 ⟨rfl, b_w22⟩; have E22 := E21.call b_w22; clear b_w22; have c0 : w22.cell? ⟨g1, 0, none⟩ = some (.int .u8 236) := (by rw [(E22.row 3 rfl).cell, HB.out]; rfl); have c1 : w22.cell? ⟨g1, 1, none⟩ = some (.int .u8 255) := (by rw [(E22.row 3 rfl).cell, HB.out]; rfl); have c31 : w22.cell? ⟨g1, 31, none⟩ = some (.int .u8 127) := (by rw [(E22.row 3 rfl).cell, HB.out]; rfl)))
      go_ret
      exact E22.ret _
end Go.Proofs.Ytejingggfbmbjaa
