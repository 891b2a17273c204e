/-
  The law's own awake (layer 7): the chapter's examples. Conditions: none.
-/
import Derived.Test.YtpgjcmccfpjmoaaLadderF
import Derived.Test.YtpgjcmccfpjmoaaLadderT
import Derived.Test.YtpgjcmccfpjmoaaD
namespace Go.Proofs.Ytpgjcmccfpjmoaa
open Go.RowKit
set_option linter.unusedVariables false
set_option maxRecDepth 20000

/-- Points whose product by eight is 0 share nothing. -/
theorem raw_small (s p : List UInt8) (hs : s.length = 32) (h8 : ladC (numK p) [true, false, false, false] = 0) : rawK s p = zeroKey := by
  unfold rawK
  rw [small_zero s hs (numK p) (numK_lt p) h8]
  decide +kernel
theorem multE_small (s p : List UInt8) (hs : s.length = 32) (h8 : ladC (numK p) [true, false, false, false] = 0) : multE s p = 30 := by
  unfold multE
  rw [raw_small s p hs h8, if_pos rfl]
  split <;> rfl
theorem multE_more (s p : List UInt8) (h : decide (ofLowB p < pF) = false) : multE s p = 30 := if_neg (of_decide_eq_false h)
def fiveK : List UInt8 := 5 :: List.replicate 31 0
theorem fiveK_length : fiveK.length = 32 := rfl
theorem fiveLit : keyC fiveK = #[.int .u8 5, .int .u8 0, .int .u8 0, .int .u8 0, .int .u8 0, .int .u8 0, .int .u8 0, .int .u8 0, .int .u8 0, .int .u8 0, .int .u8 0, .int .u8 0, .int .u8 0, .int .u8 0, .int .u8 0, .int .u8 0, .int .u8 0, .int .u8 0, .int .u8 0, .int .u8 0, .int .u8 0, .int .u8 0, .int .u8 0, .int .u8 0, .int .u8 0, .int .u8 0, .int .u8 0, .int .u8 0, .int .u8 0, .int .u8 0, .int .u8 0, .int .u8 0] := rfl
theorem zero_8 : ladC (numK zeroKey) [true, false, false, false] = 0 := by decide +kernel
def nnN : Nat := 54815864700279561125610391355931320566748822376190344121911385527384361806914
def nnK : List UInt8 := lowB nnN 32
theorem nine_num : numK nineK = 9 := by decide +kernel
theorem nine_lad : ladC 9 (bitsL (clampK nineK)) = nnN := by decide +kernel
theorem raw_nine : rawK nineK nineK = nnK := by
  unfold rawK nnK
  rw [nine_num, multN_lad, ← ladC_eq, nine_lad]
theorem nn_a : ofHighB (nnK.take 4) = 1110216314 := by decide +kernel
theorem nn_b : ofHighB ((nnK.drop 28).take 8) = 296628345 := by decide +kernel
/-- Bytes 255, and zeros behind them. -/
def ffL (k : Nat) : List UInt8 := List.replicate k 255 ++ List.replicate (32 - k) 0
theorem ffL_length (k : Nat) (h : k ≤ 32) : (ffL k).length = 32 := by simp [ffL]; omega
theorem ffL_step (k : Nat) (h : k < 32) : (ffL k).set k 255 = ffL (k + 1) := by
  unfold ffL
  rw [List.set_append_right _ _ (by simp), List.length_replicate, Nat.sub_self, show 32 - k = (32 - (k + 1)) + 1 by omega, List.replicate_succ, List.set_cons_zero, List.replicate_succ']
  simp
def topK : List UInt8 := ((ffL 32).set 0 237).set 31 127
theorem topK_length : topK.length = 32 := by decide +kernel
theorem top_more : decide (ofLowB topK < pF) = false := by decide +kernel
theorem lrow4 {w : World} {g : Nat} {t : TypeId} {l : List UInt8} (h : RowAt w g t (keyC l)) (hl : l.length = 32) : Bs w (.slice (some ⟨g, 0, none⟩) 4 32) (l.take 4) := by
  have := Bs.part h 0 4 32 (by omega) (by omega) (by unfold maxLen; omega)
  rwa [List.drop_zero] at this
theorem lrow28 {w : World} {g : Nat} {t : TypeId} {l : List UInt8} (h : RowAt w g t (keyC l)) (hl : l.length = 32) : Bs w (.slice (some ⟨g, 28, none⟩) 4 4) (l.drop 28) := by
  have := Bs.part h 28 4 4 (by omega) (Nat.le_refl _) (by unfold maxLen; omega)
  rwa [List.take_of_length_le (by rw [List.length_drop]; omega)] at this

set_option maxHeartbeats 4000000 in
theorem ladderAwake_any (w : World) : Calls Try.prog 9 #[] w (RetV w (.bool true)) := by
  obtain ⟨d, hd⟩ : ∃ d, d = nnK := ⟨_, rfl⟩
  have LD : Hid (d.length = 32) := by show _ = _; rw [hd]; exact lowB_length _ _
  have C9 : Hid (∀ w, Calls Try.prog 21 #[.agg #[.int .u8 9, .int .u8 0, .int .u8 0, .int .u8 0, .int .u8 0, .int .u8 0, .int .u8 0, .int .u8 0, .int .u8 0, .int .u8 0, .int .u8 0, .int .u8 0, .int .u8 0, .int .u8 0, .int .u8 0, .int .u8 0, .int .u8 0, .int .u8 0, .int .u8 0, .int .u8 0, .int .u8 0, .int .u8 0, .int .u8 0, .int .u8 0, .int .u8 0, .int .u8 0, .int .u8 0, .int .u8 0, .int .u8 0, .int .u8 0, .int .u8 0, .int .u8 0]] w (RetV w (.agg (keyC d)))) := fun w => by
    have h := Public_any nineK nineK_length w
    rw [nineLit, raw_nine, ← hd] at h
    exact h
  obtain ⟨r1, hr1⟩ : ∃ r, r = multK fiveK zeroKey := ⟨_, rfl⟩
  have L1 : Hid (r1.length = 32) := by show _ = _; rw [hr1]; exact multK_length _ _
  have C13 : Hid (∀ w, Calls Try.prog 12 #[.agg #[.int .u8 5, .int .u8 0, .int .u8 0, .int .u8 0, .int .u8 0, .int .u8 0, .int .u8 0, .int .u8 0, .int .u8 0, .int .u8 0, .int .u8 0, .int .u8 0, .int .u8 0, .int .u8 0, .int .u8 0, .int .u8 0, .int .u8 0, .int .u8 0, .int .u8 0, .int .u8 0, .int .u8 0, .int .u8 0, .int .u8 0, .int .u8 0, .int .u8 0, .int .u8 0, .int .u8 0, .int .u8 0, .int .u8 0, .int .u8 0, .int .u8 0, .int .u8 0], .agg #[.int .u8 0, .int .u8 0, .int .u8 0, .int .u8 0, .int .u8 0, .int .u8 0, .int .u8 0, .int .u8 0, .int .u8 0, .int .u8 0, .int .u8 0, .int .u8 0, .int .u8 0, .int .u8 0, .int .u8 0, .int .u8 0, .int .u8 0, .int .u8 0, .int .u8 0, .int .u8 0, .int .u8 0, .int .u8 0, .int .u8 0, .int .u8 0, .int .u8 0, .int .u8 0, .int .u8 0, .int .u8 0, .int .u8 0, .int .u8 0, .int .u8 0, .int .u8 0]] w (RetV w (.tuple #[.agg (keyC r1), .int .i64 30]))) := fun w => by
    have h := Mult_any fiveK zeroKey fiveK_length zeroKey_length w
    rw [multE_small fiveK zeroKey fiveK_length zero_8, ← hr1, fiveLit, ← zeroLit] at h
    exact h
  obtain ⟨r2, hr2⟩ : ∃ r, r = multK fiveK topK := ⟨_, rfl⟩
  have L2 : Hid (r2.length = 32) := by show _ = _; rw [hr2]; exact multK_length _ _
  obtain ⟨tp, htp⟩ : ∃ l, l = topK := ⟨_, rfl⟩
  have LT : Hid (tp.length = 32) := by show _ = _; rw [htp]; exact topK_length
  have HT : Hid (tp = ((ffL 32).set 0 237).set 31 127) := htp
  have C28 : Hid (∀ w, Calls Try.prog 12 #[.agg #[.int .u8 5, .int .u8 0, .int .u8 0, .int .u8 0, .int .u8 0, .int .u8 0, .int .u8 0, .int .u8 0, .int .u8 0, .int .u8 0, .int .u8 0, .int .u8 0, .int .u8 0, .int .u8 0, .int .u8 0, .int .u8 0, .int .u8 0, .int .u8 0, .int .u8 0, .int .u8 0, .int .u8 0, .int .u8 0, .int .u8 0, .int .u8 0, .int .u8 0, .int .u8 0, .int .u8 0, .int .u8 0, .int .u8 0, .int .u8 0, .int .u8 0, .int .u8 0], .agg (keyC tp)] w (RetV w (.tuple #[.agg (keyC r2), .int .i64 30]))) := fun w => by
    have h := Mult_any fiveK topK fiveK_length topK_length w
    rw [multE_more fiveK topK top_more, ← hr2, fiveLit, ← htp] at h
    exact h
  have F0 : Hid (∀ x v, Bs x v (d.take 4) → Calls Try.prog 22 #[v] x fun e w' => e = .returned (.int .u64 1110216314) ∧ w' = x) := fun x v h => by
    have := refOfHigh_any x v _ h
    rw [List.take_of_length_le (show (d.take 4).length ≤ 8 by rw [List.length_take]; omega), hd, nn_a] at this
    exact this.mono fun _ _ h => ⟨h.1, h.2.symm⟩
  have F1 : Hid (∀ x v, Bs x v (d.drop 28) → Calls Try.prog 22 #[v] x fun e w' => e = .returned (.int .u64 296628345) ∧ w' = x) := fun x v h => by
    have := refOfHigh_any x v _ h
    rw [hd, nn_b] at this
    exact this.mono fun _ _ h => ⟨h.1, h.2.symm⟩
  clear hd hr1 hr2 htp
  have E0 := Lib.hid (Env.start w)
  go_enter Try.func9, Try.ntmps9
  go_wp2_with fail
  refine (C9.out _).mono ?_
  rintro e w1 ⟨rfl, b1⟩
  have E1 := Lib.hid (E0.out.call b1)
  clear b1 E0 C9
  go_wp2_with (first
    | ((with_reducible refine wpE_alloc (o := ⟨some 1, _, _, _, _, _⟩) rfl 23 rfl (keyC (zeroKey)) Try.zeroK E1.out ?_); intro g1 w2 T; have E2 := Lib.hid T; clear T)
    | ((with_reducible refine wpE_store (o := ⟨none, _, _, _, _, _⟩) rfl 23 (.tmp 1) (.tmp 9) rfl 0 g1 23 (keyC (zeroKey)) (keyC (d)) (by with_unfolding_all rfl) (by with_unfolding_all rfl) (by with_unfolding_all rfl) (keyC_same zeroKey_length LD.out) (Try.sizeKey _ LD.out) (keyC_one _) E2.out ?_); intro w3 T; simp only [List.set_cons_zero] at T; have E3 := Lib.hid T; clear T))
  refine (C13.out _).mono ?_
  rintro e w4 ⟨rfl, b4⟩
  have E4 := Lib.hid (E3.out.call b4)
  clear b4 E1 E2 E3 C13
  go_wp2_with (first
    | ((with_reducible refine wpE_alloc (o := ⟨some 2, _, _, _, _, _⟩) rfl 23 rfl (keyC (zeroKey)) Try.zeroK E4.out ?_); intro g2 w5 T; have E5 := Lib.hid T; clear T)
    | ((with_reducible refine wpE_store (o := ⟨none, _, _, _, _, _⟩) rfl 23 (.tmp 2) (.tmp 14) rfl 0 g2 23 (keyC (zeroKey)) (keyC (r1)) (by with_unfolding_all rfl) (by with_unfolding_all rfl) (by with_unfolding_all rfl) (keyC_same zeroKey_length L1.out) (Try.sizeKey _ L1.out) (keyC_one _) E5.out ?_); intro w6 T; simp only [List.set_cons_zero] at T; have E6 := Lib.hid T; clear T)
    | ((with_reducible refine wpE_alloc (o := ⟨some 4, _, _, _, _, _⟩) rfl 23 rfl (keyC (zeroKey)) Try.zeroK E6.out ?_); intro g3 w7 T; have E7 := Lib.hid T; clear T)
    | ((with_reducible refine wpE_store (o := ⟨none, _, _, _, _, _⟩) rfl 23 (.tmp 4) (.tmp 16) rfl 0 g3 23 (keyC (zeroKey)) (keyC (zeroKey)) (by with_unfolding_all rfl) (by with_unfolding_all rfl) (by with_unfolding_all exact congrArg Value.agg zeroLit) (keyC_same zeroKey_length zeroKey_length) (Try.sizeKey _ zeroKey_length) (keyC_one _) E7.out ?_); intro w8 T; simp only [List.set_cons_zero] at T; have E8 := Lib.hid T; clear T))
  clear E4 E5 E6 E7
  go_loopw [5] (fun i wr => ∃ k : Nat, k ≤ 32 ∧ i = .int .i64 k ∧ Env w [(g3, 23, keyC (ffL k)), (g2, 23, keyC r1), (g1, 23, keyC d)] wr) (fun i _ => 32 - (intOf i).toNat)
  case atStart => exact ⟨0, by omega, rfl, E8.out⟩
  case round =>
    clear E8
    obtain ⟨k, hk, rfl, hE⟩ := hrel
    have E := Lib.hid hE
    clear hE
    by_cases hlt : k < 32
    · have hc := bytesC_cell (E.out.row 0 rfl) k (by rw [ffL_length k hk]; exact hlt)
      generalize ((ffL k)[k]'(by rw [ffL_length k hk]; exact hlt)).toNat = old at hc
      have hf := E.out.fzN 0 rfl k
      have E2 := E.out.cellTo 0 rfl k (.int .u8 255) (bytesC_put (ffL k) k 255)
      simp only [List.set_cons_zero] at E2
      rw [ffL_step k hlt] at E2
      have HE := Lib.hid E2
      have hk5 : (k : Int) < 32 := by omega
      clear E2 E
      go_wp2
      go_roundw
      case rel => exact ⟨k + 1, by omega, by go_num, HE.out⟩
      case measure => simp [intOf]; omega
    · have hk32 : k = 32 := by omega
      have HFL : Hid ((ffL 32).length = 32) := ffL_length 32 (Nat.le_refl _)
      have EA := E.out
      rw [hk32] at EA
      have ha := bytesC_cell (EA.row 0 rfl) 0 (by rw [HFL.out]; omega)
      have fa := EA.fzN 0 rfl 0
      have EB := EA.cellTo 0 rfl 0 (.int .u8 237) (bytesC_put (ffL 32) 0 237)
      simp only [List.set_cons_zero] at EB
      have hb := bytesC_cell (EB.row 0 rfl) 31 (by rw [List.length_set, HFL.out]; omega)
      have fb := EB.fzN 0 rfl 31
      have EC := EB.cellTo 0 rfl 31 (.int .u8 127) (bytesC_put ((ffL 32).set 0 237) 31 127)
      simp only [List.set_cons_zero] at EC
      rw [← HT.out] at EC
      have E9 := Lib.hid EC
      generalize ((ffL 32)[0]'(by rw [HFL.out]; omega)).toNat = old1 at ha
      generalize (((ffL 32).set 0 237)[31]'(by rw [List.length_set, HFL.out]; omega)).toNat = old2 at hb
      clear EA EB EC E hk32 HFL HT
      go_wp2_with (first
        | (with_reducible refine wpE_load (o := ⟨some 27, _, _, _, _, _⟩) rfl 23 (.tmp 4) rfl 0 g3 23 (keyC (tp)) _ (by with_unfolding_all rfl) (by with_unfolding_all rfl) Try.underlying23 rfl (Try.sizeKey _ LT.out) E9.out ?_))
      clear ha fa hb fb
      refine (C28.out _).mono ?_
      rintro e wa ⟨rfl, ba⟩
      have EA := Lib.hid (E9.out.call ba)
      clear ba E9 C28
      go_wp2_with (first
        | ((with_reducible refine wpE_alloc (o := ⟨some 6, _, _, _, _, _⟩) rfl 23 rfl (keyC (zeroKey)) Try.zeroK EA.out ?_); intro g4 wb T; have EB := Lib.hid T; clear T)
        | ((with_reducible refine wpE_store (o := ⟨none, _, _, _, _, _⟩) rfl 23 (.tmp 6) (.tmp 29) rfl 0 g4 23 (keyC (zeroKey)) (keyC (r2)) (by with_unfolding_all rfl) (by with_unfolding_all rfl) (by with_unfolding_all rfl) (keyC_same zeroKey_length L2.out) (Try.sizeKey _ L2.out) (keyC_one _) EB.out ?_); intro wc T; simp only [List.set_cons_zero] at T; have EC := Lib.hid T; clear T))
      have hsl := fun x : World => run_sliceArrL (P := Try.prog) x 23 5 32 Try.underlying23 Try.sizeB g1 0 28 28 rfl (by omega)
      have hsl4 := fun x : World => run_sliceArr (P := Try.prog) x 23 5 32 Try.underlying23 Try.sizeB g1 0 0 4 0 4 rfl rfl (by omega) (by omega) (by omega)
      go_wp2_with fail
      refine (F0.out _ _ (lrow4 (EC.out.row 3 rfl) LD.out)).mono ?_
      intro e x h
      obtain ⟨he, hw⟩ := h
      subst he hw
      go_wp2_with fail
      refine (F1.out _ _ (lrow28 (EC.out.row 3 rfl) LD.out)).mono ?_
      intro e x h
      obtain ⟨he, hw⟩ := h
      subst he hw
      clear hsl hsl4
      go_wp2
      go_ret
      exact EC.out.ret _
end Go.Proofs.Ytpgjcmccfpjmoaa
