/-
  Texts that belong together, merged: FieldJ, FieldK, L, KeyEq, FieldL, FieldN. Conditions: as each theorem names them.
-/
import Derived.Test.YthipdfmaaeoijaaQEpcAE
import Derived.Stop.BytesEq
section
namespace Go.Proofs.Ythipdfmaaeoijaa
open Go.RowKit
set_option linter.unusedVariables false
set_option maxRecDepth 20000

/-- The words of a key, the lowest one first; one more behind them. -/
def wordK (key : List UInt8) (i : Nat) : Nat := ofLowB ((key.drop (8 * i)).take 8)
def wordsK (key : List UInt8) : List Nat := (List.range 4).map (wordK key) ++ [0]
theorem wordsK_length (key : List UInt8) : (wordsK key).length = 5 := by simp [wordsK]
theorem wordK_lt (key : List UInt8) (i : Nat) : wordK key i < 18446744073709551616 := by
  have h := ofLowB_lt ((key.drop (8 * i)).take 8)
  have : ((key.drop (8 * i)).take 8).length ≤ 8 := List.length_take_le _ _
  have h2 := pow256_le _ this
  unfold wordK
  omega
theorem wordsK_get (key : List UInt8) (i : Nat) (h : i < 4) : (wordsK key).getD i 0 = wordK key i := by
  unfold wordsK
  rw [List.getD_eq_getElem?_getD, List.getElem?_append_left (by simpa using h)]
  simp [h]
theorem wordsK_last (key : List UInt8) : (wordsK key).getD 4 0 = 0 := by simp [wordsK]
theorem wordsK_lt (key : List UInt8) (i : Nat) : (wordsK key).getD i 0 < 18446744073709551616 := by
  refine getD_lt (fun x hx => ?_) (by omega) i
  rcases List.mem_append.1 hx with hx | hx
  · obtain ⟨j, _, rfl⟩ := List.mem_map.1 hx
    exact wordK_lt key j
  · simp at hx; omega
theorem key_val (key : List UInt8) (h : key.length = 32) : ofLowB key = wordK key 0 + 18446744073709551616 * (wordK key 1 + 18446744073709551616 * (wordK key 2 + 18446744073709551616 * wordK key 3)) := by
  have step : ∀ l : List UInt8, ofLowB l = ofLowB (l.take 8) + 18446744073709551616 * ofLowB (l.drop 8) ∨ l.length < 8 := by
    intro l
    by_cases hl : l.length < 8
    · exact .inr hl
    · refine .inl ?_
      have e := ofLowB_append (l.take 8) (l.drop 8)
      rw [List.take_append_drop, List.length_take_of_le (by omega)] at e
      exact e
  have h0 := (step key).resolve_right (by omega)
  have h1 := (step (key.drop 8)).resolve_right (by simp; omega)
  have h2 := (step (key.drop 16)).resolve_right (by simp; omega)
  have h3 := (step (key.drop 24)).resolve_right (by simp; omega)
  rw [List.drop_drop] at h1 h2 h3
  have h4 : ofLowB (key.drop (24 + 8)) = 0 := by rw [List.drop_eq_nil_of_le (by omega)]; rfl
  unfold wordK
  simp only [Nat.mul_zero, List.drop_zero, Nat.mul_one, Nat.reduceMul, Nat.reduceAdd] at *
  rw [h0, h1, h2, h3, h4]
  simp
/-- A part of a key, out of two words. -/
theorem part_of (key : List UInt8) (h : key.length = 32) (k : Nat) (hk : k < 5) : ((wordsK key).getD (51 * k / 64) 0 / 2 ^ (51 * k % 64) + (wordsK key).getD (51 * k / 64 + 1) 0 * 2 ^ (64 - 51 * k % 64) % 18446744073709551616) % 2251799813685248 = (digL 5 (ofLowB key)).getD k 0 := by
  rw [key_val key h]
  have a0 := wordK_lt key 0
  have a1 := wordK_lt key 1
  have a2 := wordK_lt key 2
  have a3 := wordK_lt key 3
  have e0 := wordsK_get key 0 (by omega)
  have e1 := wordsK_get key 1 (by omega)
  have e2 := wordsK_get key 2 (by omega)
  have e3 := wordsK_get key 3 (by omega)
  have e4 := wordsK_last key
  generalize wordK key 0 = w0 at *
  generalize wordK key 1 = w1 at *
  generalize wordK key 2 = w2 at *
  generalize wordK key 3 = w3 at *
  have hc : k = 0 ∨ k = 1 ∨ k = 2 ∨ k = 3 ∨ k = 4 := by omega
  rw [digL5]
  rcases hc with rfl | rfl | rfl | rfl | rfl <;> simp only [Nat.reduceMul, Nat.reduceDiv, Nat.reduceMod, Nat.reduceAdd, Nat.reduceSub, Nat.reducePow, e0, e1, e2, e3, e4, List.getD_cons_zero, List.getD_cons_succ] <;> unfold Mx <;> omega

theorem joined (x y b c : Nat) (h : b + c = 64) (hx : x < 18446744073709551616) : ∃ s : Nat, bits .or .u64 ((x / 2 ^ b : Nat) : Int) ((y * 2 ^ c % 18446744073709551616 : Nat) : Int) = (s : Int) ∧ s < 18446744073709551616 ∧ True ∧ x / 2 ^ b + y * 2 ^ c % 18446744073709551616 = s := by
  have e : 18446744073709551616 = 2 ^ c * 2 ^ b := by rw [← Nat.pow_add, Nat.add_comm, h]
  have h1 : x / 2 ^ b < 2 ^ c := Nat.div_lt_of_lt_mul (by rw [Nat.mul_comm, ← e]; exact hx)
  have h2 : y * 2 ^ c % 18446744073709551616 = 2 ^ c * (y % 2 ^ b) := by rw [e, Nat.mul_comm y, Nat.mul_mod_mul_left]
  have h3 : y * 2 ^ c % 18446744073709551616 % 2 ^ c = 0 := by rw [h2, Nat.mul_mod_right]
  have h4 : x / 2 ^ b < 18446744073709551616 := Nat.lt_of_le_of_lt (Nat.div_le_self _ _) hx
  have h5 := Nat.mod_lt (y * 2 ^ c) (show 0 < 18446744073709551616 by omega)
  refine ⟨_, or64 _ _ c h1 h3 h4 h5, ?_, trivial, rfl⟩
  rw [h2, e]
  have h6 : y % 2 ^ b + 1 ≤ 2 ^ b := Nat.mod_lt _ (Nat.two_pow_pos b)
  have h7 : 2 ^ c * (y % 2 ^ b + 1) ≤ 2 ^ c * 2 ^ b := Nat.mul_le_mul_left _ h6
  rw [Nat.mul_add, Nat.mul_one] at h7
  omega
theorem stP_words (key : List UInt8) : stP (wordsK key) zero5 4 = wordsK key := by
  unfold stP wordsK
  rw [List.take_left' (by simp)]
  rfl

set_option maxHeartbeats 2000000 in
theorem read_any (key : List UInt8) (hk : key.length = 32) (w : World) :
    Calls Try.prog 28 #[keyV key] w (RetV w (.agg (natsC (digL 5 (ofLowB key))))) := by
  have HK := Lib.hid hk
  have HP := Lib.hid (part_of key hk)
  have HZL : Hid ((digL 5 (ofLowB key)).length = 5) := digL_length 5 _
  obtain ⟨z, hz⟩ : ∃ z, z = digL 5 (ofLowB key) := ⟨_, rfl⟩
  rw [← hz] at HP HZL ⊢
  clear hk hz
  have E0 := Env.start w
  go_enter Try.func28, Try.ntmps28
  go_wp2_with (first
    | ((with_reducible refine wpE_box (o := ⟨some 1, _, _, _, _, _⟩) rfl 32 (.tmp 0) rfl (keyC key) (by with_unfolding_all rfl) E0 ?_); intro g1 w1 E1)
    | ((with_reducible refine wpE_alloc (o := ⟨some 2, _, _, _, _, _⟩) rfl 57 rfl (natsC (zero5)) Try.zero5p E1 ?_); intro g2 w2 E2)
    | ((with_reducible refine wpE_alloc (o := ⟨some 3, _, _, _, _, _⟩) rfl 56 rfl (natsC (zero5)) Try.zero5w E2 ?_); intro g3 w3 E3))
  have E4 := Lib.hid E3
  clear E0 E1 E2 E3
  go_loopw [9] (fun i wr => ∃ k : Nat, k ≤ 4 ∧ i = .int .i64 k ∧ Env w [(g3, 56, natsC (stP (wordsK key) zero5 k)), (g2, 57, natsC zero5), (g1, 32, keyC key)] wr) (fun i _ => 4 - (intOf i).toNat)
  case atStart => exact ⟨0, by omega, rfl, by rw [stP_zero]; exact E4.out⟩
  case round =>
    clear E4
    obtain ⟨k, hk, rfl, hE⟩ := hrel
    have E := Lib.hid hE
    clear hE
    by_cases hlt : k < 4
    · have hsl := fun x : World => run_sliceArr (P := Try.prog) x 32 5 32 Try.underlying32 Try.sizeB g1 0 (8 * k) (8 * k + 8) (8 * (k : Int)) (8 * ((k : Int) + 1)) (by omega) (by omega) (by omega) (by omega) (by omega)
      rw [Nat.zero_add, show 8 * k + 8 - 8 * k = 8 by omega] at hsl
      have hst := stP_step (wordsK key) zero5 (wordsK_length key) zero5_length k (by omega)
      rw [wordsK_get key k hlt] at hst
      have c1 := E.out.getN 0 rfl k (by rw [stP_length _ _ (wordsK_length key) zero5_length k (by omega)]; omega)
      have f1 := E.out.fzN 0 rfl k
      generalize (stP (wordsK key) zero5 k).getD k 0 = old at c1
      have ht8 : ((key.drop (8 * k)).take 8).take 8 = (key.drop (8 * k)).take 8 := List.take_of_length_le (by simp; omega)
      have HT := Lib.hid ht8
      have hx : wordK key k = ofLowB ((key.drop (8 * k)).take 8) := rfl
      have HX := Lib.hid hx
      have E5 := E.out.cellN 0 rfl k (wordK key k)
      simp only [List.set_cons_zero] at E5
      rw [hst] at E5
      have HE5 := Lib.hid E5
      have BS := Lib.hid (Bs.part (E.out.row 2 rfl) (8 * k) 8 (32 - 8 * k) (by rw [HK.out]; omega) (by omega) (by unfold maxLen; omega))
      clear E5 hst ht8 hx
      go_wp2_with fail
      refine (OfLow_any _ _ _ BS.out).mono ?_
      rintro e w' ⟨rfl, rfl⟩
      rw [HT.out, ← HX.out]
      go_wp2
      go_roundw
      case rel => exact ⟨k + 1, by omega, by go_num, HE5.out⟩
      case measure => simp [intOf]; omega
    · have hk4 : k = 4 := by omega
      have E5 := E.out
      rw [hk4, stP_words] at E5
      have E6 := Lib.hid E5
      clear E5 E hk4
      go_wp2_with ((with_reducible refine wpE_alloc (o := ⟨some 5, _, _, _, _, _⟩) rfl 57 rfl (natsC (zero5)) Try.zero5p E6.out ?_); intro g4 w4 E7)
      have E8 := Lib.hid E7
      clear E7 E6
      go_loopw [22] (fun i wr => ∃ k : Nat, k ≤ 5 ∧ i = .int .i64 k ∧ Env w [(g4, 57, natsC (stP z zero5 k)), (g3, 56, natsC (wordsK key)), (g2, 57, natsC zero5), (g1, 32, keyC key)] wr) (fun i _ => 5 - (intOf i).toNat)
      case atStart => exact ⟨0, by omega, rfl, by rw [stP_zero]; exact E8.out⟩
      case round =>
        clear E8
        obtain ⟨k, hk, rfl, hE⟩ := hrel
        have E := Lib.hid hE
        clear hE
        by_cases hlt5 : k < 5
        · have PL := Lib.hid (fun w => place_any w k hlt5)
          have hpart := HP.out k hlt5
          obtain ⟨wd, hwd⟩ : ∃ v, v = 51 * k / 64 := ⟨_, rfl⟩
          obtain ⟨bb, hbb⟩ : ∃ v, v = 51 * k % 64 := ⟨_, rfl⟩
          rw [← hwd, ← hbb] at PL hpart
          have hw1 : (wd : Int) < 5 := by omega
          have hw2 : (wd : Int) + 1 < 5 := by omega
          have hb1 : bb < 64 := by omega
          have c1 := E.out.getN 1 rfl wd (by rw [wordsK_length]; omega)
          have c2 := E.out.getN 1 rfl (wd + 1) (by rw [wordsK_length]; omega)
          have hl1 := wordsK_lt key wd
          have hl2 := wordsK_lt key (wd + 1)
          generalize (wordsK key).getD wd 0 = x at c1 hl1 hpart
          generalize (wordsK key).getD (wd + 1) 0 = y at c2 hl2 hpart
          have c3 := E.out.getN 0 rfl k (by rw [stP_length _ _ HZL.out zero5_length k (by omega)]; omega)
          have f3 := E.out.fzN 0 rfl k
          generalize (stP z zero5 k).getD k 0 = old at c3
          have hk5 : (k : Int) < 5 := by omega
          obtain ⟨cc, hcc⟩ : ∃ v, v = 64 - bb := ⟨_, rfl⟩
          have hsub : IntKind.u64.wrap (64 - (bb : Int)) = (cc : Int) := by rw [IntKind.wrap_u64]; omega
          have hcl : cc ≤ 64 := by omega
          rw [← hcc] at hpart
          obtain ⟨s, hs1, hs2, hs3, hs4⟩ := joined x y bb cc (by omega) hl1
          rw [hs4] at hpart
          obtain ⟨q1, hq1⟩ : ∃ v, v = x / 2 ^ bb := ⟨_, rfl⟩
          obtain ⟨q2, hq2⟩ : ∃ v, v = y * 2 ^ cc % 18446744073709551616 := ⟨_, rfl⟩
          have hd1 : (x : Int) / 2 ^ bb = (q1 : Int) := by rw [hq1]; simp
          have hd2 : IntKind.u64.wrap ((y : Int) * 2 ^ cc) = (q2 : Int) := by rw [IntKind.wrap_u64, hq2]; simp
          rw [← hq1, ← hq2] at hs1
          have hand := and51 s hs2
          rw [hpart] at hand
          have E5 := E.out.drew.cellN 0 rfl k (z.getD k 0)
          simp only [List.set_cons_zero] at E5
          rw [stP_step z zero5 HZL.out zero5_length k hlt5] at E5
          have HE5 := Lib.hid E5
          generalize z.getD k 0 = zk at hand HE5
          clear hcc hq1 hq2 hs3 hs4 hpart hl1 hl2 E5
          have hq : 0 ≤ (wd : Int) + 1 := by omega
          have hq4 : ((wd : Int) + 1).toNat = wd + 1 := by omega
          have hq3 : IntKind.i64.wrap ((wd : Int) + 1) = (wd : Int) + 1 := IntWalk.i64_in _ (by omega)
          clear hwd hbb
          go_wp2_with fail
          refine (PL.out _).mono ?_
          rintro e w' ⟨rfl, rfl⟩
          go_wp2_with fail
          go_still_tail 16, (by kernel_rfl)
          change wpList _ _ _ _ _ wr.drew
          have c4 : wr.drew.cell? ⟨g4, k, none⟩ = some (.int .u64 (old : Int)) := c3
          have f4 : wr.drew.frozen? ⟨g4, k, none⟩ = false := f3
          clear c1 c2 c3 f3 hd1 hd2 hand hs1
          go_wp2
          go_roundw
          case rel => exact ⟨k + 1, by omega, by go_num, HE5.out⟩
          case measure => simp [intOf]; omega
        · have hk5 : k = 5 := by omega
          have E5 := E.out
          rw [hk5, stP_all z zero5 HZL.out zero5_length] at E5
          have E6 := Lib.hid E5
          clear E5 E hk5
          go_wp2_with (first
            | (with_reducible refine wpE_load (o := ⟨some 47, _, _, _, _, _⟩) rfl 57 (.tmp 5) rfl 0 g4 57 (natsC (z)) _ (by with_unfolding_all rfl) (by with_unfolding_all rfl) Try.underlying57 rfl (sizeN Try.sz5p _ HZL.out) E6.out ?_)
            | ((with_reducible refine wpE_store (o := ⟨none, _, _, _, _, _⟩) rfl 57 (.tmp 2) (.tmp 47) rfl 2 g2 57 (natsC (zero5)) (natsC (z)) (by with_unfolding_all rfl) (by with_unfolding_all rfl) (by with_unfolding_all rfl) (natsC_same zero5_length HZL.out) (sizeN Try.sz5p _ HZL.out) (natsC_one _) E6.out ?_); intro w9 E9; simp only [List.set_cons_zero, List.set_cons_succ] at E9))
          exact bodyPost_ret (results_cell_row rfl _ _ g2 57 (natsC (z)) (0, 0) _ rfl (E9.row 2 rfl) Try.underlying57 rfl (sizeN Try.sz5p _ HZL.out)) rfl (E9.ret _)
end Go.Proofs.Ythipdfmaaeoijaa
end
section
namespace Go.Proofs.Ythipdfmaaeoijaa
open Go.RowKit
set_option linter.unusedVariables false
set_option maxRecDepth 20000

/-- Five words of a number. -/
def w64 (m : Nat) : List Nat := [m % 18446744073709551616, m / 18446744073709551616 % 18446744073709551616, m / 340282366920938463463374607431768211456 % 18446744073709551616, m / 6277101735386680763835789423207666416102355444464034512896 % 18446744073709551616, m / 115792089237316195423570985008687907853269984665640564039457584007913129639936 % 18446744073709551616]
theorem w64_length (m : Nat) : (w64 m).length = 5 := rfl
theorem w64_zero : w64 0 = zero5 := by decide
theorem w64_lt (m : Nat) : ∀ x ∈ w64 m, x < 18446744073709551616 := by
  intro x hx
  simp only [w64, List.mem_cons, List.not_mem_nil, or_false] at hx
  omega
set_option maxHeartbeats 2000000 in
theorem key_step (n k : Nat) (hk : k < 5) : (w64 (n % Mx ^ k)).getD (51 * k / 64) 0 < 2 ^ (51 * k % 64) ∧ (w64 (n % Mx ^ k)).getD (51 * k / 64 + 1) 0 = 0 ∧
    ((w64 (n % Mx ^ k)).set (51 * k / 64) ((w64 (n % Mx ^ k)).getD (51 * k / 64) 0 + (elemL n).getD k 0 * 2 ^ (51 * k % 64) % 18446744073709551616)).set (51 * k / 64 + 1) ((elemL n).getD k 0 / 2 ^ (64 - 51 * k % 64)) = w64 (n % Mx ^ (k + 1)) := by
  have hc : k = 0 ∨ k = 1 ∨ k = 2 ∨ k = 3 ∨ k = 4 := by omega
  unfold elemL
  rw [digL5]
  rcases hc with rfl | rfl | rfl | rfl | rfl <;> simp only [w64, Mx, Nat.reduceMul, Nat.reduceDiv, Nat.reduceMod, Nat.reduceAdd, Nat.reduceSub, Nat.reducePow, List.getD_cons_zero, List.getD_cons_succ, List.set_cons_zero, List.set_cons_succ, List.cons.injEq, and_true] <;> omega
theorem lowB_add (n a b : Nat) : lowB n (a + b) = lowB n a ++ lowB (n / 256 ^ a) b := by
  induction b with
  | zero => simp [lowB_zero]
  | succ b ih =>
    rw [← Nat.add_assoc, lowB_succ, ih, lowB_succ, List.append_assoc]
    congr 3
    simp [byteN, Nat.div_div_eq_div_mul, Nat.pow_add]
theorem lowB_mod (m : Nat) : lowB (m % 18446744073709551616) 8 = lowB m 8 := by
  unfold lowB
  apply List.map_congr_left
  intro i hi
  have hi8 : i < 8 := List.mem_range.1 hi
  apply UInt8.toNat_inj.1
  rw [byteN_toNat, byteN_toNat]
  have h : i = 0 ∨ i = 1 ∨ i = 2 ∨ i = 3 ∨ i = 4 ∨ i = 5 ∨ i = 6 ∨ i = 7 := by omega
  rcases h with rfl | rfl | rfl | rfl | rfl | rfl | rfl | rfl <;> simp only [Nat.reducePow] <;> omega
theorem getD_set_far (l : List Nat) (i u j : Nat) (h : i ≠ j) : (l.set i u).getD j 0 = l.getD j 0 := by
  simp only [List.getD_eq_getElem?_getD]
  rw [List.getElem?_set_ne h]
theorem over_word (a x b : Nat) (hb : b < 64) (ha : a < 2 ^ b) : ∃ s : Nat, bits .or .u64 (a : Int) ((x * 2 ^ b % 18446744073709551616 : Nat) : Int) = (s : Int) ∧ s < 18446744073709551616 ∧ a + x * 2 ^ b % 18446744073709551616 = s := by
  have e : 18446744073709551616 = 2 ^ b * 2 ^ (64 - b) := by rw [← Nat.pow_add, show b + (64 - b) = 64 by omega]
  have h2 : x * 2 ^ b % 18446744073709551616 = 2 ^ b * (x % 2 ^ (64 - b)) := by rw [e, Nat.mul_comm x, Nat.mul_mod_mul_left]
  have h3 : x * 2 ^ b % 18446744073709551616 % 2 ^ b = 0 := by rw [h2, Nat.mul_mod_right]
  have h4 : a < 18446744073709551616 := Nat.lt_of_lt_of_le ha (by rw [e]; exact Nat.le_mul_of_pos_right _ (Nat.two_pow_pos _))
  have h5 := Nat.mod_lt (x * 2 ^ b) (show 0 < 18446744073709551616 by omega)
  refine ⟨_, or64 _ _ b ha h3 h4 h5, ?_, rfl⟩
  rw [h2, e]
  have h6 : x % 2 ^ (64 - b) + 1 ≤ 2 ^ (64 - b) := Nat.mod_lt _ (Nat.two_pow_pos _)
  have h7 : 2 ^ b * (x % 2 ^ (64 - b) + 1) ≤ 2 ^ b * 2 ^ (64 - b) := Nat.mul_le_mul_left _ h6
  rw [Nat.mul_add, Nat.mul_one] at h7
  omega
theorem word_low (n k : Nat) (hk : k < 4) : lowB n (8 * (k + 1)) = lowB n (8 * k) ++ lowB ((w64 n).getD k 0) 8 := by
  rw [Nat.mul_add, Nat.mul_one, lowB_add]
  have h : k = 0 ∨ k = 1 ∨ k = 2 ∨ k = 3 := by omega
  rcases h with rfl | rfl | rfl | rfl <;> simp only [w64, List.getD_cons_zero, List.getD_cons_succ, lowB_mod] <;> simp

set_option maxHeartbeats 4000000 in
theorem Key_any (n : Nat) (hn : n < pF) (w : World) :
    Calls Try.prog 26 #[.agg (natsC (elemL n))] w (RetV w (keyV (lowB n 32))) := by
  have HKS := Lib.hid (key_step n)
  have HN : Hid (n % Mx ^ 5 = n) := Nat.mod_eq_of_lt (Nat.lt_trans hn pF_lt)
  have HX := Lib.hid (fun k => getD_lt (elemL_lt n) Mx_pos k)
  have HKL : Hid (∀ k, k ≤ 4 → (fillB (lowB n (8 * k)) 32).length = 32) := fun k hk => fillB_length _ _ (by rw [lowB_length]; omega)
  clear hn
  have E0 := Env.start w
  go_enter Try.func26, Try.ntmps26
  go_wp2_with (first
    | ((with_reducible refine wpE_box (o := ⟨some 1, _, _, _, _, _⟩) rfl 59 (.tmp 0) rfl (natsC (elemL n)) (by with_unfolding_all rfl) E0 ?_); intro g1 w1 E1)
    | ((with_reducible refine wpE_alloc (o := ⟨some 2, _, _, _, _, _⟩) rfl 32 rfl (keyC (zeroKey)) Try.zeroK E1 ?_); intro g2 w2 E2)
    | ((with_reducible refine wpE_alloc (o := ⟨some 3, _, _, _, _, _⟩) rfl 56 rfl (natsC (zero5)) Try.zero5w E2 ?_); intro g3 w3 E3)
    | (with_reducible refine wpE_load (o := ⟨some 11, _, _, _, _, _⟩) rfl 57 (.tmp 10) rfl 2 g1 59 (natsC (elemL n)) _ (by with_unfolding_all rfl) (by with_unfolding_all rfl) Try.underlying57 rfl (sizeN Try.sz5p _ (elemL_length n)) E3 ?_))
  have E4 := Lib.hid E3
  clear E0 E1 E2 E3
  go_loopw [12] (fun i wr => ∃ k : Nat, k ≤ 5 ∧ i = .int .i64 k ∧ Env w [(g3, 56, natsC (w64 (n % Mx ^ k))), (g2, 32, keyC zeroKey), (g1, 59, natsC (elemL n))] wr) (fun i _ => 5 - (intOf i).toNat)
  case atStart => exact ⟨0, by omega, rfl, by rw [Nat.pow_zero, Nat.mod_one, w64_zero]; exact E4.out⟩
  case round =>
    clear E4
    obtain ⟨k, hk, rfl, hE⟩ := hrel
    have E := Lib.hid hE
    clear hE
    by_cases hlt : k < 5
    · have hix := fun W => run_indexN (P := Try.prog) W 57 55 5 (elemL n) k Try.underlying57 Try.underlying55 Try.szU64 (elemL_length n) hlt
      have PL := Lib.hid (fun w => place_any w k hlt)
      obtain ⟨s1, s2, s3⟩ := HKS.out k hlt
      have hx := HX.out k
      obtain ⟨wd, hwd⟩ : ∃ v, v = 51 * k / 64 := ⟨_, rfl⟩
      obtain ⟨bb, hbb⟩ : ∃ v, v = 51 * k % 64 := ⟨_, rfl⟩
      rw [← hwd] at PL s1 s2 s3
      rw [← hbb] at PL s1 s3
      have hw0 : wd < 4 := by omega
      have hw1 : (wd : Int) < 5 := by omega
      have hw2 : (wd : Int) + 1 < 5 := by omega
      have hb1 : bb < 64 := by omega
      have hln := w64_length (n % Mx ^ k)
      have hall := w64_lt (n % Mx ^ k)
      have c1 := E.out.getN 0 rfl wd (by rw [hln]; omega)
      have f1 := E.out.fzN 0 rfl wd
      generalize (elemL n).getD k 0 = x at hix hx s3
      obtain ⟨cc, hcc⟩ : ∃ v, v = 64 - bb := ⟨_, rfl⟩
      have hsub : IntKind.u64.wrap (64 - (bb : Int)) = (cc : Int) := by rw [IntKind.wrap_u64]; omega
      rw [← hcc] at s3
      have hcl : cc ≤ 64 := by omega
      have hx64 : x < 18446744073709551616 := Nat.lt_trans hx (by decide)
      have hov : (w64 (n % Mx ^ k)).getD wd 0 < 18446744073709551616 := getD_lt hall (by omega) wd
      obtain ⟨u, hu1, hu2, hu3⟩ := over_word ((w64 (n % Mx ^ k)).getD wd 0) x bb hb1 s1
      obtain ⟨q, hq⟩ : ∃ v, v = x * 2 ^ bb % 18446744073709551616 := ⟨_, rfl⟩
      obtain ⟨r, hr⟩ : ∃ v, v = x / 2 ^ cc := ⟨_, rfl⟩
      have hd1 : IntKind.u64.wrap ((x : Int) * 2 ^ bb) = (q : Int) := by rw [IntKind.wrap_u64, hq]; simp
      have hd2 : (x : Int) / 2 ^ cc = (r : Int) := by rw [hr]; simp
      have hrl : r < 18446744073709551616 := by rw [hr]; exact Nat.lt_of_le_of_lt (Nat.div_le_self _ _) hx64
      rw [← hq] at hu1 hu3 s3
      rw [← hr, hu3] at s3
      have hor0 : bits .or .u64 0 (r : Int) = (r : Int) := by
        have h := or64 0 r 0 (by decide) (Nat.mod_one _) (by decide) hrl
        rw [Nat.zero_add] at h
        exact h
      have E5 := E.out.cellN 0 rfl wd u
      simp only [List.set_cons_zero] at E5
      have c2 := E5.getN 0 rfl (wd + 1) (by rw [List.length_set, hln]; omega)
      have f2 := E5.fzN 0 rfl (wd + 1)
      rw [show ((w64 (n % Mx ^ k)).set wd u).getD (wd + 1) 0 = 0 from (getD_set_far _ _ _ _ (Nat.ne_of_lt (Nat.lt_succ_self _))).trans s2] at c2
      have E6 := E5.cellN 0 rfl (wd + 1) r
      simp only [List.set_cons_zero] at E6
      rw [s3] at E6
      have HE6 := Lib.hid E6
      generalize (w64 (n % Mx ^ k)).getD wd 0 = old at c1 hu1
      have hk5 : (k : Int) < 5 := by omega
      clear s1 s2 s3 hx hcc hq hr hx64 hov hln hall hu3 E5 E6 hwd hbb
      go_wp2_with ((with_reducible refine (PL.out _).mono ?_); rintro e w' ⟨rfl, rfl⟩)
      go_roundw
      case rel => exact ⟨k + 1, by omega, by go_num, HE6.out⟩
      case measure => simp [intOf]; omega
    · have hk5 : k = 5 := by omega
      have E5 := E.out
      rw [hk5, HN.out] at E5
      have E6 := Lib.hid E5
      clear E5 E hk5
      go_wp2_with ((with_reducible refine wpE_allocF (o := ⟨some 8, _, _, _, _, _⟩) rfl 32 rfl (keyC zeroKey) Try.zeroK E6.out ?_); intro g4 w4 E7 hF)
      have E8 := Lib.hid E7
      have HF := Lib.hid hF
      clear E7 E6 hF
      go_loopw [40] (fun i wr => ∃ k : Nat, k ≤ 4 ∧ i = .int .i64 k ∧ Env w [(g4, 32, keyC (fillB (lowB n (8 * k)) 32)), (g3, 56, natsC (w64 n)), (g2, 32, keyC zeroKey), (g1, 59, natsC (elemL n))] wr) (fun i _ => 4 - (intOf i).toNat)
      case atStart => exact ⟨0, by omega, rfl, E8.out⟩
      case round =>
        clear E8
        obtain ⟨k, hk, rfl, hE⟩ := hrel
        have E := Lib.hid hE
        clear hE
        by_cases hlt4 : k < 4
        · have hsl := fun x : World => run_sliceArrL (P := Try.prog) x 32 5 32 Try.underlying32 Try.sizeB g4 0 (8 * k) (8 * (k : Int)) (by omega) (by omega)
          rw [Nat.zero_add] at hsl
          have hwl := word_low n k hlt4
          have c1 := E.out.getN 1 rfl k (by rw [w64_length]; omega)
          have hxw := getD_lt (w64_lt n) (by omega) k
          generalize (w64 n).getD k 0 = x at hwl c1 hxw
          have HWL := Lib.hid hwl
          have hdl := lowB_length x 8
          have HD := Lib.hid hdl
          have hll := lowB_length n (8 * k)
          have HLL := Lib.hid hll
          have hq : 8 * (k : Int) < 32 := by omega
          have hk5 : (k : Int) < 5 := by omega
          have hs4 : 8 * k + 8 ≤ 32 := by omega
          have hw8 : IntKind.i64.wrap (8 * (k : Int)) = 8 * (k : Int) := IntWalk.i64_in _ (by omega)
          have R4 := Lib.hid (E.out.row 0 rfl)
          have hg4r : g4 ≤ wr.heap.size := by have := R4.out.lt; omega
          clear hwl hdl hll
          go_wp2_with fail
          go_region_law (first
            | (go_simp; go_at_call 40; refine (Low_in _ x 8 (by omega) (by omega) (by omega)).mono ?_; rintro e w3 ⟨_, rfl, hbs, b3⟩; have HS := Lib.hid hbs; obtain ⟨A, c, rfl, h1, h2, h3⟩ := hbs; clear h1 h2 h3)
            | (refine step_copy_splice rfl (.tmp 45) (.tmp 49) 63 63 rfl 5 Try.underlying63 Try.sizeB (some ⟨g4, 8 * k, none⟩) A (32 - 8 * k) (32 - 8 * k) (lowB x 8).length c rfl rfl g4 (8 * k) (cellsB (fillB (lowB n (8 * k)) 32)) 32 (R4.out.drew.kept b3) (cellsB (lowB x 8)) (by rw [cellsB_length, HD.out]; show 8 = min 8 _; omega) (copy_from HS.out) (by rw [cellsB_length, cellsB_length, fillB_length _ _ (by rw [HLL.out]; omega), HD.out]; omega) (cellsB_one _) g4 wr ((Below.refl g4 wr).drew.trans (b3.mono hg4r)) (Nat.le_refl _) ?_; intro w4 hr4 hb4))
          have hr5 := hr4.out
          rw [splice_bytes] at hr5
          have hst := fillB_step (lowB n (8 * k)) (lowB x 8) 32 (by rw [HLL.out, HD.out]; omega)
          rw [HLL.out] at hst
          rw [hst, ← HWL.out] at hr5
          have E9 := Lib.hid (E.out.over HF.out hb4 hr5)
          clear hr5 hr4 hst hb4 hsl c1
          go_wp2
          go_roundw
          case rel => exact ⟨k + 1, by omega, by go_num, E9.out⟩
          case measure => simp [intOf]; omega
        · have hk4 : k = 4 := by omega
          have E9 := E.out
          rw [hk4, fillB_all _ _ (lowB_length n 32)] at E9
          have E10 := Lib.hid E9
          clear E9 E hk4
          go_wp2_with (first
            | (with_reducible refine wpE_load (o := ⟨some 52, _, _, _, _, _⟩) rfl 32 (.tmp 8) rfl 0 g4 32 (keyC (lowB n 32)) _ (by with_unfolding_all rfl) (by with_unfolding_all rfl) Try.underlying32 rfl (Try.sizeKey _ (lowB_length n 32)) E10.out ?_)
            | ((with_reducible refine wpE_store (o := ⟨none, _, _, _, _, _⟩) rfl 32 (.tmp 2) (.tmp 52) rfl 2 g2 32 (keyC (zeroKey)) (keyC (lowB n 32)) (by with_unfolding_all rfl) (by with_unfolding_all rfl) (by with_unfolding_all rfl) (keyC_same zeroKey_length (lowB_length n 32)) (Try.sizeKey _ (lowB_length n 32)) (keyC_one _) E10.out ?_); intro w9 E11; simp only [List.set_cons_zero, List.set_cons_succ] at E11))
          exact bodyPost_ret (results_cell_row rfl _ _ g2 32 (keyC (lowB n 32)) (0, 0) _ rfl (E11.row 2 rfl) Try.underlying32 rfl (Try.sizeKey _ (lowB_length n 32))) rfl (E11.ret _)
end Go.Proofs.Ythipdfmaaeoijaa
end
section
namespace Go.Proofs.Ythipdfmaaeoijaa
open Go.RowKit
set_option linter.unusedVariables false

theorem keyC_put (l : List UInt8) (i : Nat) (b : UInt8) : (keyC l).setIfInBounds i (.int .u8 (b.toNat : Int)) = keyC (l.set i b) := by
  unfold keyC
  rw [← cellsB_set]
  simp
theorem keyC_cell {w : World} {g : Nat} {t : TypeId} {l : List UInt8} (h : RowAt w g t (keyC l)) (i : Nat) (hi : i < l.length) : w.cell? ⟨g, i, none⟩ = some (.int .u8 (l[i].toNat : Int)) := by
  rw [h.cell i]
  have := cellsB_get l i hi
  simpa [keyC] using this
theorem Try.buildK (w : World) : (Instr.build 32 #[]).run Try.prog w = .ok (keyV zeroKey) w := by kernel_rfl





end Go.Proofs.Ythipdfmaaeoijaa
end
section
namespace Go.Proofs.Ythipdfmaaeoijaa
open Go.RowKit

theorem Try.sizeOfB (w : World) : (sizeOf 5).run Try.prog w = .ok 1 w := by kernel_rfl
theorem Try.eqKeyIn (a b : List UInt8) (ha : a.length = 32) (hb : b.length = 32) (w : World) :
    (Op.equalIn 10000 32 (.agg (keyC a)) (.agg (keyC b))).run Try.prog w = .ok (a == b) w :=
  run_equalIn_bytes w 9998 32 5 32 Try.underlying32 Try.underlying5 Try.sizeOfB a b ha hb
theorem Try.eqGuardKey : Try.prog.eqGuardType Try.prog.depth 32 = false := by kernel_rfl
theorem zeroLit : (#[.int .u8 0, .int .u8 0, .int .u8 0, .int .u8 0, .int .u8 0, .int .u8 0, .int .u8 0, .int .u8 0, .int .u8 0, .int .u8 0, .int .u8 0, .int .u8 0, .int .u8 0, .int .u8 0, .int .u8 0, .int .u8 0, .int .u8 0, .int .u8 0, .int .u8 0, .int .u8 0, .int .u8 0, .int .u8 0, .int .u8 0, .int .u8 0, .int .u8 0, .int .u8 0, .int .u8 0, .int .u8 0, .int .u8 0, .int .u8 0, .int .u8 0, .int .u8 0] : Array Value) = keyC zeroKey := rfl
theorem Try.eqZeroIn (w : World) : (Op.equalIn 10000 32 (.agg (keyC zeroKey)) (.agg #[.int .u8 0, .int .u8 0, .int .u8 0, .int .u8 0, .int .u8 0, .int .u8 0, .int .u8 0, .int .u8 0, .int .u8 0, .int .u8 0, .int .u8 0, .int .u8 0, .int .u8 0, .int .u8 0, .int .u8 0, .int .u8 0, .int .u8 0, .int .u8 0, .int .u8 0, .int .u8 0, .int .u8 0, .int .u8 0, .int .u8 0, .int .u8 0, .int .u8 0, .int .u8 0, .int .u8 0, .int .u8 0, .int .u8 0, .int .u8 0, .int .u8 0, .int .u8 0])).run Try.prog w = .ok true w := by
  rw [zeroLit, Try.eqKeyIn zeroKey zeroKey zeroKey_length zeroKey_length w, beq_self_eq_true]
end Go.Proofs.Ythipdfmaaeoijaa
end
section
namespace Go.Proofs.Ythipdfmaaeoijaa
open Go.RowKit
set_option linter.unusedVariables false
set_option maxRecDepth 20000

theorem ofLowB_inj : ∀ {a b : List UInt8}, a.length = b.length → ofLowB a = ofLowB b → a = b
  | [], [], _, _ => rfl
  | x :: a, y :: b, h, he => by
    simp only [ofLowB] at he
    have h1 := x.toNat_lt
    have h2 := y.toNat_lt
    have e1 : x = y := UInt8.toNat_inj.1 (by omega)
    have e2 := ofLowB_inj (a := a) (b := b) (by simpa using h) (by omega)
    rw [e1, e2]
theorem lowB_ofLowB (key : List UInt8) (h : key.length = 32) : lowB (ofLowB key) 32 = key :=
  ofLowB_inj (by rw [lowB_length, h]) (by rw [ofLowB_lowB, ← h, Nat.mod_eq_of_lt (ofLowB_lt key)])
/-- The number of a key: without the highest bit, modulo p. -/
def numK (key : List UInt8) : Nat := ofLowB key % Mx ^ 5 % pF
theorem numK_lt (key : List UInt8) : numK key < pF := Nat.mod_lt _ (by decide)
theorem numK_key (n : Nat) (hn : n < pF) : numK (lowB n 32) = n := by
  unfold numK
  have h := pF_lt
  rw [ofLowB_lowB, Nat.mod_eq_of_lt (a := n) (b := 256 ^ 32) (Nat.lt_trans hn (by decide)), Nat.mod_eq_of_lt (Nat.lt_trans hn h), Nat.mod_eq_of_lt hn]
/-- Whether it was whole. -/
theorem whole_iff (key : List UInt8) (hk : key.length = 32) : (lowB (numK key) 32 == key) = decide (ofLowB key < pF) := by
  rw [Bool.eq_iff_iff, beq_iff_eq, decide_eq_true_eq]
  constructor
  · intro h
    have e := congrArg ofLowB h
    have hlt : numK key < 256 ^ 32 := Nat.lt_trans (numK_lt key) (by decide)
    rw [ofLowB_lowB, Nat.mod_eq_of_lt hlt] at e
    rw [← e]
    exact numK_lt key
  · intro h
    have e : numK key = ofLowB key := by
      unfold numK
      rw [Nat.mod_eq_of_lt (Nat.lt_trans h pF_lt), Nat.mod_eq_of_lt h]
    rw [e, lowB_ofLowB key hk]

set_option maxHeartbeats 2000000 in
theorem Of_any (key : List UInt8) (hk : key.length = 32) (w : World) :
    Calls Try.prog 19 #[keyV key] w (RetV w (.tuple #[.agg (natsC (elemL (numK key))), .bool (decide (ofLowB key < pF))])) := by
  have RD : Hid (∀ w, Calls Try.prog 28 #[.agg (keyC key)] w (RetV w (.agg (natsC (digL 5 (ofLowB key)))))) := read_any key hk
  have RE : Hid (∀ w, Calls Try.prog 27 #[.agg (natsC (digL 5 (ofLowB key)))] w (RetV w (.agg (natsC (elemL (numK key)))))) := fun w => by
    have h := reduced_any w (digL 5 (ofLowB key)) (digL_length 5 _) (fun x hx => Nat.lt_trans (digL_lt 5 _ x hx) (by decide))
    rw [valL_digL] at h
    exact h
  have KK : Hid (∀ w, Calls Try.prog 26 #[.agg (natsC (elemL (numK key)))] w (RetV w (.agg (keyC (lowB (numK key) 32))))) := Key_any (numK key) (numK_lt key)
  have HQ := Lib.hid (fun W => Try.eqKeyIn (lowB (numK key) 32) key (lowB_length _ _) hk W)
  rw [whole_iff key hk] at HQ
  generalize decide (ofLowB key < pF) = b at HQ ⊢
  have HK := Lib.hid hk
  clear hk
  generalize digL 5 (ofLowB key) = z at RD RE
  generalize numK key = n at RE KK HQ ⊢
  have E0 := Env.start w
  go_enter Try.func19, Try.ntmps19
  go_wp2_with (first
    | ((with_reducible refine wpE_box (o := ⟨some 1, _, _, _, _, _⟩) rfl 32 (.tmp 0) rfl (keyC key) (by with_unfolding_all rfl) E0 ?_); intro g1 w1 E1)
    | ((with_reducible refine wpE_alloc (o := ⟨some 2, _, _, _, _, _⟩) rfl 59 rfl (natsC (zero5)) Try.zero5e E1 ?_); intro g2 w2 E2)
    | (with_reducible refine wpE_load (o := ⟨some 4, _, _, _, _, _⟩) rfl 32 (.tmp 1) rfl 1 g1 32 (keyC (key)) _ (by with_unfolding_all rfl) (by with_unfolding_all rfl) Try.underlying32 rfl (Try.sizeKey _ HK.out) E2 ?_)
    | ((with_reducible refine (RD.out _).mono ?_); rintro e w3 ⟨rfl, b_w3⟩; have E3 := E2.call b_w3; clear b_w3)
    | ((with_reducible refine (RE.out _).mono ?_); rintro e w4 ⟨rfl, b_w4⟩; have E4 := E3.call b_w4; clear b_w4)
    | ((with_reducible refine wpE_store (o := ⟨none, _, _, _, _, _⟩) rfl 59 (.tmp 2) (.tmp 6) rfl 0 g2 59 (natsC (zero5)) (natsC (elemL n)) (by with_unfolding_all rfl) (by with_unfolding_all rfl) (by with_unfolding_all rfl) (natsC_same zero5_length (elemL_length _)) (sizeN Try.sz5e _ (elemL_length _)) (natsC_one _) E4 ?_); intro w5 E5; simp only [List.set_cons_zero] at E5))
  refine region_class _ E5.drew (by kernel_rfl) (by kernel_rfl) ?_
  refine qE_load (by rfl) _ (.tmp 2) rfl 0 g2 59 (natsC (elemL n)) _ rfl rfl Try.underlying59 rfl (sizeN Try.sz5e _ (elemL_length _)) ?_
  simp only [Act.put, List.setIfInBounds_toArray, List.set_cons_zero, List.set_cons_succ]
  refine qE_load (by rfl) _ (.tmp 2) rfl 0 g2 59 (natsC (elemL n)) _ rfl rfl Try.underlying59 rfl (sizeN Try.sz5e _ (elemL_length _)) ?_
  simp only [Act.put, List.setIfInBounds_toArray, List.set_cons_zero, List.set_cons_succ]
  refine q_call (by rfl) 26 _ (fun W => by go_simp) (fun W hW => hW.calls (KK.out W)) ?_
  simp only [Act.put, List.setIfInBounds_toArray, List.set_cons_zero, List.set_cons_succ]
  refine qE_load (by rfl) _ (.tmp 1) rfl 1 g1 32 (keyC (key)) _ rfl rfl Try.underlying32 rfl (Try.sizeKey _ HK.out) ?_
  simp only [Act.put, List.setIfInBounds_toArray, List.set_cons_zero, List.set_cons_succ]
  refine q_run (by rfl) (v := .bool b) (fun W _ => by have hq := HQ.out; have hg := Try.eqGuardKey; clear E5 HQ; go_simp) ?_
  simp only [Act.put, List.setIfInBounds_toArray, List.set_cons_zero, List.set_cons_succ]
  refine qE_same (by rfl) 59 (.tmp 2) (.tmp 7) rfl 0 g2 59 (natsC (elemL n)) rfl rfl rfl (sizeN Try.sz5e _ (elemL_length _)) (natsC_one _) ?_
  simp only [Act.put]
  refine q_run (by rfl) (v := .bool b) (fun W _ => by go_simp) ?_
  simp only [Act.put, List.setIfInBounds_toArray, List.set_cons_zero, List.set_cons_succ]
  refine wpQuiet_nil ?_
  intro w8 E8
  go_wp2
  exact bodyPost_ret (ret_row_tmp rfl _ g2 59 (natsC (elemL n)) _ rfl (E8.row 0 rfl) Try.underlying59 rfl (sizeN Try.sz5e _ (elemL_length _))) rfl (E8.ret _)
end Go.Proofs.Ythipdfmaaeoijaa
end
section
namespace Go.Proofs.Ythipdfmaaeoijaa
open Go.RowKit
set_option linter.unusedVariables false
set_option maxRecDepth 20000

/-- By a mask of ones it is the first, by none the other one. -/
theorem mask_pick (a b m v : Nat) (ha : a < 2251799813685248) (hb : b < 2251799813685248) (h : (m = 18446744073709551615 ∧ v = a) ∨ (m = 0 ∧ v = b)) :
    ∃ z u : Nat, bits .xor .u64 (a : Int) (b : Int) = (z : Int) ∧ bits .and .u64 (m : Int) (z : Int) = (u : Int) ∧ bits .xor .u64 (b : Int) (u : Int) = (v : Int) := by
  have hz : a ^^^ b < 2 ^ 64 := Nat.xor_lt_two_pow (by omega) (by omega)
  rcases h with ⟨rfl, rfl⟩ | ⟨rfl, rfl⟩
  · refine ⟨v ^^^ b, v ^^^ b, u64_xor_nat v b (by omega) (by omega), ?_, ?_⟩
    · rw [u64_and_nat _ _ (by omega) (by omega), Nat.and_comm]
      congr 1
      exact (Nat.and_two_pow_sub_one_eq_mod _ 64).trans (Nat.mod_eq_of_lt hz)
    · rw [u64_xor_nat b (v ^^^ b) (by omega) (by omega)]
      congr 1
      rw [Nat.xor_comm, Nat.xor_assoc, Nat.xor_self, Nat.xor_zero]
  · refine ⟨a ^^^ v, 0, u64_xor_nat a v (by omega) (by omega), ?_, ?_⟩
    · rw [u64_and_nat _ _ (by omega) (by omega), Nat.zero_and]
    · rw [u64_xor_nat v 0 (by omega) (by omega), Nat.xor_zero]

set_option maxHeartbeats 2000000 in
theorem Choose_any (first : Bool) (a b : Nat) (ha : a < pF) (hb : b < pF) (w : World) :
    Calls Try.prog 54 #[.bool first, .agg (natsC (elemL a)), .agg (natsC (elemL b))] w (RetV w (.agg (natsC (elemL (if first then a else b))))) := by
  obtain ⟨x, hx⟩ : ∃ x, x = elemL a := ⟨_, rfl⟩
  obtain ⟨y, hy⟩ : ∃ y, y = elemL b := ⟨_, rfl⟩
  obtain ⟨z, hz⟩ : ∃ z, z = if first then x else y := ⟨_, rfl⟩
  have HXL : Hid (x.length = 5) := by show _ = _; rw [hx, elemL_length]
  have HYL : Hid (y.length = 5) := by show _ = _; rw [hy, elemL_length]
  have HZL : Hid (z.length = 5) := by show _ = _; rw [hz]; split <;> first | exact HXL.out | exact HYL.out
  have HXB : Hid (∀ k, x.getD k 0 < 2251799813685248) := fun k => by rw [hx]; exact getD_lt (elemL_lt a) (by decide) k
  have HYB : Hid (∀ k, y.getD k 0 < 2251799813685248) := fun k => by rw [hy]; exact getD_lt (elemL_lt b) (by decide) k
  obtain ⟨m, hm⟩ : ∃ m : Nat, m = if first then 18446744073709551615 else 0 := ⟨_, rfl⟩
  have HM : Hid (∀ k, (m = 18446744073709551615 ∧ z.getD k 0 = x.getD k 0) ∨ (m = 0 ∧ z.getD k 0 = y.getD k 0)) := fun k => by
    rw [hm, hz]
    cases first
    · exact .inr ⟨rfl, rfl⟩
    · exact .inl ⟨rfl, rfl⟩
  have hres : elemL (if first then a else b) = z := by rw [hz, hx, hy]; split <;> rfl
  rw [hres, ← hx, ← hy]
  have E0 := Env.start w
  have hmb : m < 18446744073709551616 := by rw [hm]; split <;> omega
  clear hx hy hz hres
  cases first
  · have HMM : Hid ((m : Int) = 0) := by show _ = _; rw [hm]; rfl
    clear hm
    go_enter Try.func54, Try.ntmps54
    go_wp2_with (first
      | ((with_reducible refine wpE_box (o := ⟨some 4, _, _, _, _, _⟩) rfl 59 (.tmp 1) rfl (natsC x) (by with_unfolding_all rfl) E0 ?_); intro g1 w1 E1)
      | ((with_reducible refine wpE_box (o := ⟨some 5, _, _, _, _, _⟩) rfl 59 (.tmp 2) rfl (natsC y) (by with_unfolding_all rfl) E1 ?_); intro g2 w2 E2)
      | ((with_reducible refine wpE_alloc (o := ⟨some 6, _, _, _, _, _⟩) rfl 59 rfl (natsC zero5) Try.zero5e E2 ?_); intro g3 w3 E3; have E6 := Lib.hid E3; clear E0 E1 E2 E3))
    go_loopw [12] (fun i wr => ∃ k : Nat, k ≤ 5 ∧ i = .int .i64 k ∧ Env w [(g3, 59, natsC zero5), (g2, 59, natsC (stP z y k)), (g1, 59, natsC x)] wr) (fun i _ => 5 - (intOf i).toNat)
    case atStart => exact ⟨0, by omega, rfl, by rw [stP_zero]; exact E6.out⟩
    case round =>
      clear E6
      obtain ⟨k, hk, rfl, hE⟩ := hrel
      have E := Lib.hid hE
      clear hE
      by_cases hlt : k < 5
      · have c1 := E.out.getN 1 rfl k (by rw [stP_length z y HZL.out HYL.out k hk]; exact hlt)
        rw [stP_get z y HZL.out HYL.out k hlt] at c1
        have c2 := E.out.getN 2 rfl k (by rw [HXL.out]; exact hlt)
        have f1 := E.out.fzN 1 rfl k
        have hk5 : (k : Int) < 5 := by omega
        obtain ⟨zz, u, q1, q2, q3⟩ := mask_pick _ _ _ _ (HXB.out k) (HYB.out k) (HM.out k)
        have hstep := stP_step z y HZL.out HYL.out k hlt
        rw [HMM.out] at q2
        generalize x.getD k 0 = xv at c2 q1
        generalize y.getD k 0 = yv at c1 q1 q3
        generalize z.getD k 0 = zv at q3 hstep
        have HS := Lib.hid hstep
        clear hstep
        go_wp2_with fail
        go_still_tail 18, (by kernel_rfl)
        change wpList _ _ _ _ _ wr.drew
        have c3 : wr.drew.cell? ⟨g2, k, none⟩ = some (.int .u64 (yv : Int)) := c1
        have f3 : wr.drew.frozen? ⟨g2, k, none⟩ = false := f1
        clear c1 c2 f1 q1 q2 q3
        have E5 := E.out.drew.cellN 1 rfl k zv
        simp only [List.set_cons_zero, List.set_cons_succ] at E5
        rw [HS.out] at E5
        have HE5 := Lib.hid E5
        clear E5 E
        go_wp2
        go_roundw
        case rel => exact ⟨k + 1, by omega, by go_num, HE5.out⟩
        case measure => simp [intOf]; omega
      · have hk5 : k = 5 := by omega
        have E5 := E.out
        rw [hk5, stP_all z y HZL.out HYL.out] at E5
        have E6 := Lib.hid E5
        clear E5 E hk5
        go_wp2_with (first
          | (with_reducible refine wpE_load (o := ⟨some 34, _, _, _, _, _⟩) rfl 59 (.tmp 5) rfl 1 g2 59 (natsC z) _ (by with_unfolding_all rfl) (by with_unfolding_all rfl) Try.underlying59 rfl (sizeN Try.sz5e _ HZL.out) E6.out ?_)
          | ((with_reducible refine wpE_store (o := ⟨none, _, _, _, _, _⟩) rfl 59 (.tmp 6) (.tmp 34) rfl 0 g3 59 (natsC zero5) (natsC z) (by with_unfolding_all rfl) (by with_unfolding_all rfl) (by with_unfolding_all rfl) (natsC_same zero5_length HZL.out) (sizeN Try.sz5e _ HZL.out) (natsC_one _) E6.out ?_); intro w9 E9; simp only [List.set_cons_zero] at E9))
        exact bodyPost_ret (results_cell_row rfl _ _ g3 59 (natsC z) (0, 0) _ rfl (E9.row 0 rfl) Try.underlying59 rfl (sizeN Try.sz5e _ HZL.out)) rfl (E9.ret _)
  · have HMM : Hid ((m : Int) = bits .xor .u64 IntKind.u64.max 0) := by show _ = _; rw [hm]; decide +kernel
    clear hm
    go_enter Try.func54, Try.ntmps54
    go_wp2_with (first
      | ((with_reducible refine wpE_box (o := ⟨some 4, _, _, _, _, _⟩) rfl 59 (.tmp 1) rfl (natsC x) (by with_unfolding_all rfl) E0 ?_); intro g1 w1 E1)
      | ((with_reducible refine wpE_box (o := ⟨some 5, _, _, _, _, _⟩) rfl 59 (.tmp 2) rfl (natsC y) (by with_unfolding_all rfl) E1 ?_); intro g2 w2 E2)
      | ((with_reducible refine wpE_alloc (o := ⟨some 6, _, _, _, _, _⟩) rfl 59 rfl (natsC zero5) Try.zero5e E2 ?_); intro g3 w3 E3; have E6 := Lib.hid E3; clear E0 E1 E2 E3))
    go_loopw [12] (fun i wr => ∃ k : Nat, k ≤ 5 ∧ i = .int .i64 k ∧ Env w [(g3, 59, natsC zero5), (g2, 59, natsC (stP z y k)), (g1, 59, natsC x)] wr) (fun i _ => 5 - (intOf i).toNat)
    case atStart => exact ⟨0, by omega, rfl, by rw [stP_zero]; exact E6.out⟩
    case round =>
      clear E6
      obtain ⟨k, hk, rfl, hE⟩ := hrel
      have E := Lib.hid hE
      clear hE
      by_cases hlt : k < 5
      · have c1 := E.out.getN 1 rfl k (by rw [stP_length z y HZL.out HYL.out k hk]; exact hlt)
        rw [stP_get z y HZL.out HYL.out k hlt] at c1
        have c2 := E.out.getN 2 rfl k (by rw [HXL.out]; exact hlt)
        have f1 := E.out.fzN 1 rfl k
        have hk5 : (k : Int) < 5 := by omega
        obtain ⟨zz, u, q1, q2, q3⟩ := mask_pick _ _ _ _ (HXB.out k) (HYB.out k) (HM.out k)
        have hstep := stP_step z y HZL.out HYL.out k hlt
        rw [HMM.out] at q2
        generalize x.getD k 0 = xv at c2 q1
        generalize y.getD k 0 = yv at c1 q1 q3
        generalize z.getD k 0 = zv at q3 hstep
        have HS := Lib.hid hstep
        clear hstep
        go_wp2_with fail
        go_still_tail 18, (by kernel_rfl)
        change wpList _ _ _ _ _ wr.drew
        have c3 : wr.drew.cell? ⟨g2, k, none⟩ = some (.int .u64 (yv : Int)) := c1
        have f3 : wr.drew.frozen? ⟨g2, k, none⟩ = false := f1
        clear c1 c2 f1 q1 q2 q3
        have E5 := E.out.drew.cellN 1 rfl k zv
        simp only [List.set_cons_zero, List.set_cons_succ] at E5
        rw [HS.out] at E5
        have HE5 := Lib.hid E5
        clear E5 E
        go_wp2
        go_roundw
        case rel => exact ⟨k + 1, by omega, by go_num, HE5.out⟩
        case measure => simp [intOf]; omega
      · have hk5 : k = 5 := by omega
        have E5 := E.out
        rw [hk5, stP_all z y HZL.out HYL.out] at E5
        have E6 := Lib.hid E5
        clear E5 E hk5
        go_wp2_with (first
          | (with_reducible refine wpE_load (o := ⟨some 34, _, _, _, _, _⟩) rfl 59 (.tmp 5) rfl 1 g2 59 (natsC z) _ (by with_unfolding_all rfl) (by with_unfolding_all rfl) Try.underlying59 rfl (sizeN Try.sz5e _ HZL.out) E6.out ?_)
          | ((with_reducible refine wpE_store (o := ⟨none, _, _, _, _, _⟩) rfl 59 (.tmp 6) (.tmp 34) rfl 0 g3 59 (natsC zero5) (natsC z) (by with_unfolding_all rfl) (by with_unfolding_all rfl) (by with_unfolding_all rfl) (natsC_same zero5_length HZL.out) (sizeN Try.sz5e _ HZL.out) (natsC_one _) E6.out ?_); intro w9 E9; simp only [List.set_cons_zero] at E9))
        exact bodyPost_ret (results_cell_row rfl _ _ g3 59 (natsC z) (0, 0) _ rfl (E9.row 0 rfl) Try.underlying59 rfl (sizeN Try.sz5e _ HZL.out)) rfl (E9.ret _)
end Go.Proofs.Ythipdfmaaeoijaa
end
