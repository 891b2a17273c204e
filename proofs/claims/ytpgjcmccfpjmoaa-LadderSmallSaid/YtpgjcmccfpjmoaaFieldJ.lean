/-
  Contract of the field's read. Conditions: the key has thirty-two bytes.
-/
import Derived.Test.YtpgjcmccfpjmoaaFieldI
import Derived.Test.YtpgjcmccfpjmoaaWords
import Derived.Test.YtpgjcmccfpjmoaaC
import Derived.Test.YtpgjcmccfpjmoaaD
namespace Go.Proofs.Ytpgjcmccfpjmoaa
open Go.RowKit
set_option linter.unusedVariables false
set_option maxRecDepth 20000

/-- The words of a key, the lowest one first; one more behind them. -/
def wordK (key : List UInt8) (i : Nat) : Nat := ofLowB ((key.drop (8 * i)).take 8)
def wordsK (key : List UInt8) : List Nat := (List.range 4).map (wordK key) ++ [0]
theorem wordsK_length (key : List UInt8) : (wordsK key).length = 5 := by simp [wordsK]
theorem wordK_lt (key : List UInt8) (i : Nat) : wordK key i < 18446744073709551616 := by
  have h := ofLowB_lt ((key.drop (8 * i)).take 8)
  have : ((key.drop (8 * i)).take 8).length ≤ 8 := List.length_take_le _ _
  have h2 := pow256_le _ this
  unfold wordK
  omega
theorem wordsK_get (key : List UInt8) (i : Nat) (h : i < 4) : (wordsK key).getD i 0 = wordK key i := by
  unfold wordsK
  rw [List.getD_eq_getElem?_getD, List.getElem?_append_left (by simpa using h)]
  simp [h]
theorem wordsK_last (key : List UInt8) : (wordsK key).getD 4 0 = 0 := by simp [wordsK]
theorem wordsK_lt (key : List UInt8) (i : Nat) : (wordsK key).getD i 0 < 18446744073709551616 := by
  refine getD_lt (fun x hx => ?_) (by omega) i
  rcases List.mem_append.1 hx with hx | hx
  · obtain ⟨j, _, rfl⟩ := List.mem_map.1 hx
    exact wordK_lt key j
  · simp at hx; omega
theorem key_val (key : List UInt8) (h : key.length = 32) : ofLowB key = wordK key 0 + 18446744073709551616 * (wordK key 1 + 18446744073709551616 * (wordK key 2 + 18446744073709551616 * wordK key 3)) := by
  have step : ∀ l : List UInt8, ofLowB l = ofLowB (l.take 8) + 18446744073709551616 * ofLowB (l.drop 8) ∨ l.length < 8 := by
    intro l
    by_cases hl : l.length < 8
    · exact .inr hl
    · refine .inl ?_
      have e := ofLowB_append (l.take 8) (l.drop 8)
      rw [List.take_append_drop, List.length_take_of_le (by omega)] at e
      exact e
  have h0 := (step key).resolve_right (by omega)
  have h1 := (step (key.drop 8)).resolve_right (by simp; omega)
  have h2 := (step (key.drop 16)).resolve_right (by simp; omega)
  have h3 := (step (key.drop 24)).resolve_right (by simp; omega)
  rw [List.drop_drop] at h1 h2 h3
  have h4 : ofLowB (key.drop (24 + 8)) = 0 := by rw [List.drop_eq_nil_of_le (by omega)]; rfl
  unfold wordK
  simp only [Nat.mul_zero, List.drop_zero, Nat.mul_one, Nat.reduceMul, Nat.reduceAdd] at *
  rw [h0, h1, h2, h3, h4]
  simp
/-- A part of a key, out of two words. -/
theorem part_of (key : List UInt8) (h : key.length = 32) (k : Nat) (hk : k < 5) : ((wordsK key).getD (51 * k / 64) 0 / 2 ^ (51 * k % 64) + (wordsK key).getD (51 * k / 64 + 1) 0 * 2 ^ (64 - 51 * k % 64) % 18446744073709551616) % 2251799813685248 = (digL 5 (ofLowB key)).getD k 0 := by
  rw [key_val key h]
  have a0 := wordK_lt key 0
  have a1 := wordK_lt key 1
  have a2 := wordK_lt key 2
  have a3 := wordK_lt key 3
  have e0 := wordsK_get key 0 (by omega)
  have e1 := wordsK_get key 1 (by omega)
  have e2 := wordsK_get key 2 (by omega)
  have e3 := wordsK_get key 3 (by omega)
  have e4 := wordsK_last key
  generalize wordK key 0 = w0 at *
  generalize wordK key 1 = w1 at *
  generalize wordK key 2 = w2 at *
  generalize wordK key 3 = w3 at *
  have hc : k = 0 ∨ k = 1 ∨ k = 2 ∨ k = 3 ∨ k = 4 := by omega
  rw [digL5]
  rcases hc with rfl | rfl | rfl | rfl | rfl <;> simp only [Nat.reduceMul, Nat.reduceDiv, Nat.reduceMod, Nat.reduceAdd, Nat.reduceSub, Nat.reducePow, e0, e1, e2, e3, e4, List.getD_cons_zero, List.getD_cons_succ] <;> unfold Mx <;> omega

theorem joined (x y b c : Nat) (h : b + c = 64) (hx : x < 18446744073709551616) : ∃ s : Nat, bits .or .u64 ((x / 2 ^ b : Nat) : Int) ((y * 2 ^ c % 18446744073709551616 : Nat) : Int) = (s : Int) ∧ s < 18446744073709551616 ∧ True ∧ x / 2 ^ b + y * 2 ^ c % 18446744073709551616 = s := by
  have e : 18446744073709551616 = 2 ^ c * 2 ^ b := by rw [← Nat.pow_add, Nat.add_comm, h]
  have h1 : x / 2 ^ b < 2 ^ c := Nat.div_lt_of_lt_mul (by rw [Nat.mul_comm, ← e]; exact hx)
  have h2 : y * 2 ^ c % 18446744073709551616 = 2 ^ c * (y % 2 ^ b) := by rw [e, Nat.mul_comm y, Nat.mul_mod_mul_left]
  have h3 : y * 2 ^ c % 18446744073709551616 % 2 ^ c = 0 := by rw [h2, Nat.mul_mod_right]
  have h4 : x / 2 ^ b < 18446744073709551616 := Nat.lt_of_le_of_lt (Nat.div_le_self _ _) hx
  have h5 := Nat.mod_lt (y * 2 ^ c) (show 0 < 18446744073709551616 by omega)
  refine ⟨_, or64 _ _ c h1 h3 h4 h5, ?_, trivial, rfl⟩
  rw [h2, e]
  have h6 : y % 2 ^ b + 1 ≤ 2 ^ b := Nat.mod_lt _ (Nat.two_pow_pos b)
  have h7 : 2 ^ c * (y % 2 ^ b + 1) ≤ 2 ^ c * 2 ^ b := Nat.mul_le_mul_left _ h6
  rw [Nat.mul_add, Nat.mul_one] at h7
  omega
theorem stP_words (key : List UInt8) : stP (wordsK key) zero5 4 = wordsK key := by
  unfold stP wordsK
  rw [List.take_left' (by simp)]
  rfl

set_option maxHeartbeats 2000000 in
theorem read_any (key : List UInt8) (hk : key.length = 32) (w : World) :
    Calls Try.prog 37 #[keyV key] w (RetV w (.agg (natsC (digL 5 (ofLowB key))))) := by
  have HK := Lib.hid hk
  have HP := Lib.hid (part_of key hk)
  have HZL : Hid ((digL 5 (ofLowB key)).length = 5) := digL_length 5 _
  obtain ⟨z, hz⟩ : ∃ z, z = digL 5 (ofLowB key) := ⟨_, rfl⟩
  rw [← hz] at HP HZL ⊢
  clear hk hz
  have E0 := Env.start w
  go_enter Try.func37, Try.ntmps37
  go_wp2_with (first
    | ((with_reducible refine wpE_box (o := ⟨some 1, _, _, _, _, _⟩) rfl 23 (.tmp 0) rfl (keyC key) (by with_unfolding_all rfl) E0 ?_); intro g1 w1 E1)
    | ((with_reducible refine wpE_alloc (o := ⟨some 2, _, _, _, _, _⟩) rfl 43 rfl (natsC (zero5)) Try.zero5p E1 ?_); intro g2 w2 E2)
    | ((with_reducible refine wpE_alloc (o := ⟨some 3, _, _, _, _, _⟩) rfl 42 rfl (natsC (zero5)) Try.zero5w E2 ?_); intro g3 w3 E3))
  have E4 := Lib.hid E3
  clear E0 E1 E2 E3
  go_loopw [9] (fun i wr => ∃ k : Nat, k ≤ 4 ∧ i = .int .i64 k ∧ Env w [(g3, 42, natsC (stP (wordsK key) zero5 k)), (g2, 43, natsC zero5), (g1, 23, keyC key)] wr) (fun i _ => 4 - (intOf i).toNat)
  case atStart => exact ⟨0, by omega, rfl, by rw [stP_zero]; exact E4.out⟩
  case round =>
    clear E4
    obtain ⟨k, hk, rfl, hE⟩ := hrel
    have E := Lib.hid hE
    clear hE
    by_cases hlt : k < 4
    · have hsl := fun x : World => run_sliceArr (P := Try.prog) x 23 5 32 Try.underlying23 Try.sizeB g1 0 (8 * k) (8 * k + 8) (8 * (k : Int)) (8 * ((k : Int) + 1)) (by omega) (by omega) (by omega) (by omega) (by omega)
      rw [Nat.zero_add, show 8 * k + 8 - 8 * k = 8 by omega] at hsl
      have hst := stP_step (wordsK key) zero5 (wordsK_length key) zero5_length k (by omega)
      rw [wordsK_get key k hlt] at hst
      have c1 := E.out.getN 0 rfl k (by rw [stP_length _ _ (wordsK_length key) zero5_length k (by omega)]; omega)
      have f1 := E.out.fzN 0 rfl k
      generalize (stP (wordsK key) zero5 k).getD k 0 = old at c1
      have ht8 : ((key.drop (8 * k)).take 8).take 8 = (key.drop (8 * k)).take 8 := List.take_of_length_le (by simp; omega)
      have HT := Lib.hid ht8
      have hx : wordK key k = ofLowB ((key.drop (8 * k)).take 8) := rfl
      have HX := Lib.hid hx
      have E5 := E.out.cellN 0 rfl k (wordK key k)
      simp only [List.set_cons_zero] at E5
      rw [hst] at E5
      have HE5 := Lib.hid E5
      have BS := Lib.hid (Bs.part (E.out.row 2 rfl) (8 * k) 8 (32 - 8 * k) (by rw [HK.out]; omega) (by omega) (by unfold maxLen; omega))
      clear E5 hst ht8 hx
      go_wp2_with fail
      refine (OfLow_any _ _ _ BS.out).mono ?_
      rintro e w' ⟨rfl, rfl⟩
      rw [HT.out, ← HX.out]
      go_wp2
      go_roundw
      case rel => exact ⟨k + 1, by omega, by go_num, HE5.out⟩
      case measure => simp [intOf]; omega
    · have hk4 : k = 4 := by omega
      have E5 := E.out
      rw [hk4, stP_words] at E5
      have E6 := Lib.hid E5
      clear E5 E hk4
      go_wp2_with ((with_reducible refine wpE_alloc (o := ⟨some 5, _, _, _, _, _⟩) rfl 43 rfl (natsC (zero5)) Try.zero5p E6.out ?_); intro g4 w4 E7)
      have E8 := Lib.hid E7
      clear E7 E6
      go_loopw [22] (fun i wr => ∃ k : Nat, k ≤ 5 ∧ i = .int .i64 k ∧ Env w [(g4, 43, natsC (stP z zero5 k)), (g3, 42, natsC (wordsK key)), (g2, 43, natsC zero5), (g1, 23, keyC key)] wr) (fun i _ => 5 - (intOf i).toNat)
      case atStart => exact ⟨0, by omega, rfl, by rw [stP_zero]; exact E8.out⟩
      case round =>
        clear E8
        obtain ⟨k, hk, rfl, hE⟩ := hrel
        have E := Lib.hid hE
        clear hE
        by_cases hlt5 : k < 5
        · have PL := Lib.hid (fun w => place_any w k hlt5)
          have hpart := HP.out k hlt5
          obtain ⟨wd, hwd⟩ : ∃ v, v = 51 * k / 64 := ⟨_, rfl⟩
          obtain ⟨bb, hbb⟩ : ∃ v, v = 51 * k % 64 := ⟨_, rfl⟩
          rw [← hwd, ← hbb] at PL hpart
          have hw1 : (wd : Int) < 5 := by omega
          have hw2 : (wd : Int) + 1 < 5 := by omega
          have hb1 : bb < 64 := by omega
          have c1 := E.out.getN 1 rfl wd (by rw [wordsK_length]; omega)
          have c2 := E.out.getN 1 rfl (wd + 1) (by rw [wordsK_length]; omega)
          have hl1 := wordsK_lt key wd
          have hl2 := wordsK_lt key (wd + 1)
          generalize (wordsK key).getD wd 0 = x at c1 hl1 hpart
          generalize (wordsK key).getD (wd + 1) 0 = y at c2 hl2 hpart
          have c3 := E.out.getN 0 rfl k (by rw [stP_length _ _ HZL.out zero5_length k (by omega)]; omega)
          have f3 := E.out.fzN 0 rfl k
          generalize (stP z zero5 k).getD k 0 = old at c3
          have hk5 : (k : Int) < 5 := by omega
          obtain ⟨cc, hcc⟩ : ∃ v, v = 64 - bb := ⟨_, rfl⟩
          have hsub : IntKind.u64.wrap (64 - (bb : Int)) = (cc : Int) := by rw [IntKind.wrap_u64]; omega
          have hcl : cc ≤ 64 := by omega
          rw [← hcc] at hpart
          obtain ⟨s, hs1, hs2, hs3, hs4⟩ := joined x y bb cc (by omega) hl1
          rw [hs4] at hpart
          obtain ⟨q1, hq1⟩ : ∃ v, v = x / 2 ^ bb := ⟨_, rfl⟩
          obtain ⟨q2, hq2⟩ : ∃ v, v = y * 2 ^ cc % 18446744073709551616 := ⟨_, rfl⟩
          have hd1 : (x : Int) / 2 ^ bb = (q1 : Int) := by rw [hq1]; simp
          have hd2 : IntKind.u64.wrap ((y : Int) * 2 ^ cc) = (q2 : Int) := by rw [IntKind.wrap_u64, hq2]; simp
          rw [← hq1, ← hq2] at hs1
          have hand := and51 s hs2
          rw [hpart] at hand
          have E5 := E.out.drew.cellN 0 rfl k (z.getD k 0)
          simp only [List.set_cons_zero] at E5
          rw [stP_step z zero5 HZL.out zero5_length k hlt5] at E5
          have HE5 := Lib.hid E5
          generalize z.getD k 0 = zk at hand HE5
          clear hcc hq1 hq2 hs3 hs4 hpart hl1 hl2 E5
          have hq : 0 ≤ (wd : Int) + 1 := by omega
          have hq4 : ((wd : Int) + 1).toNat = wd + 1 := by omega
          have hq3 : IntKind.i64.wrap ((wd : Int) + 1) = (wd : Int) + 1 := IntWalk.i64_in _ (by omega)
          clear hwd hbb
          go_wp2_with fail
          refine (PL.out _).mono ?_
          rintro e w' ⟨rfl, rfl⟩
          go_wp2_with fail
          go_still_tail 16, (by kernel_rfl)
          change wpList _ _ _ _ _ wr.drew
          have c4 : wr.drew.cell? ⟨g4, k, none⟩ = some (.int .u64 (old : Int)) := c3
          have f4 : wr.drew.frozen? ⟨g4, k, none⟩ = false := f3
          clear c1 c2 c3 f3 hd1 hd2 hand hs1
          go_wp2
          go_roundw
          case rel => exact ⟨k + 1, by omega, by go_num, HE5.out⟩
          case measure => simp [intOf]; omega
        · have hk5 : k = 5 := by omega
          have E5 := E.out
          rw [hk5, stP_all z zero5 HZL.out zero5_length] at E5
          have E6 := Lib.hid E5
          clear E5 E hk5
          go_wp2_with (first
            | (with_reducible refine wpE_load (o := ⟨some 47, _, _, _, _, _⟩) rfl 43 (.tmp 5) rfl 0 g4 43 (natsC (z)) _ (by with_unfolding_all rfl) (by with_unfolding_all rfl) Try.underlying43 rfl (sizeN Try.sz5p _ HZL.out) E6.out ?_)
            | ((with_reducible refine wpE_store (o := ⟨none, _, _, _, _, _⟩) rfl 43 (.tmp 2) (.tmp 47) rfl 2 g2 43 (natsC (zero5)) (natsC (z)) (by with_unfolding_all rfl) (by with_unfolding_all rfl) (by with_unfolding_all rfl) (natsC_same zero5_length HZL.out) (sizeN Try.sz5p _ HZL.out) (natsC_one _) E6.out ?_); intro w9 E9; simp only [List.set_cons_zero, List.set_cons_succ] at E9))
          exact bodyPost_ret (results_cell_row rfl _ _ g2 43 (natsC (z)) (0, 0) _ rfl (E9.row 2 rfl) Try.underlying43 rfl (sizeN Try.sz5p _ HZL.out)) rfl (E9.ret _)
end Go.Proofs.Ytpgjcmccfpjmoaa
