/-
  Contract of the field's Key. Conditions: the number is below p.
-/
import Derived.Test.YtpgjcmccfpjmoaaFieldJ
namespace Go.Proofs.Ytpgjcmccfpjmoaa
open Go.RowKit
set_option linter.unusedVariables false
set_option maxRecDepth 20000

/-- Five words of a number. -/
def w64 (m : Nat) : List Nat := [m % 18446744073709551616, m / 18446744073709551616 % 18446744073709551616, m / 340282366920938463463374607431768211456 % 18446744073709551616, m / 6277101735386680763835789423207666416102355444464034512896 % 18446744073709551616, m / 115792089237316195423570985008687907853269984665640564039457584007913129639936 % 18446744073709551616]
theorem w64_length (m : Nat) : (w64 m).length = 5 := rfl
theorem w64_zero : w64 0 = zero5 := by decide
theorem w64_lt (m : Nat) : ∀ x ∈ w64 m, x < 18446744073709551616 := by
  intro x hx
  simp only [w64, List.mem_cons, List.not_mem_nil, or_false] at hx
  omega
set_option maxHeartbeats 2000000 in
theorem key_step (n k : Nat) (hk : k < 5) : (w64 (n % Mx ^ k)).getD (51 * k / 64) 0 < 2 ^ (51 * k % 64) ∧ (w64 (n % Mx ^ k)).getD (51 * k / 64 + 1) 0 = 0 ∧
    ((w64 (n % Mx ^ k)).set (51 * k / 64) ((w64 (n % Mx ^ k)).getD (51 * k / 64) 0 + (elemL n).getD k 0 * 2 ^ (51 * k % 64) % 18446744073709551616)).set (51 * k / 64 + 1) ((elemL n).getD k 0 / 2 ^ (64 - 51 * k % 64)) = w64 (n % Mx ^ (k + 1)) := by
  have hc : k = 0 ∨ k = 1 ∨ k = 2 ∨ k = 3 ∨ k = 4 := by omega
  unfold elemL
  rw [digL5]
  rcases hc with rfl | rfl | rfl | rfl | rfl <;> simp only [w64, Mx, Nat.reduceMul, Nat.reduceDiv, Nat.reduceMod, Nat.reduceAdd, Nat.reduceSub, Nat.reducePow, List.getD_cons_zero, List.getD_cons_succ, List.set_cons_zero, List.set_cons_succ, List.cons.injEq, and_true] <;> omega
theorem lowB_add (n a b : Nat) : lowB n (a + b) = lowB n a ++ lowB (n / 256 ^ a) b := by
  induction b with
  | zero => simp [lowB_zero]
  | succ b ih =>
    rw [← Nat.add_assoc, lowB_succ, ih, lowB_succ, List.append_assoc]
    congr 3
    simp [byteN, Nat.div_div_eq_div_mul, Nat.pow_add]
theorem lowB_mod (m : Nat) : lowB (m % 18446744073709551616) 8 = lowB m 8 := by
  unfold lowB
  apply List.map_congr_left
  intro i hi
  have hi8 : i < 8 := List.mem_range.1 hi
  apply UInt8.toNat_inj.1
  rw [byteN_toNat, byteN_toNat]
  have h : i = 0 ∨ i = 1 ∨ i = 2 ∨ i = 3 ∨ i = 4 ∨ i = 5 ∨ i = 6 ∨ i = 7 := by omega
  rcases h with rfl | rfl | rfl | rfl | rfl | rfl | rfl | rfl <;> simp only [Nat.reducePow] <;> omega
theorem getD_set_far (l : List Nat) (i u j : Nat) (h : i ≠ j) : (l.set i u).getD j 0 = l.getD j 0 := by
  simp only [List.getD_eq_getElem?_getD]
  rw [List.getElem?_set_ne h]
theorem over_word (a x b : Nat) (hb : b < 64) (ha : a < 2 ^ b) : ∃ s : Nat, bits .or .u64 (a : Int) ((x * 2 ^ b % 18446744073709551616 : Nat) : Int) = (s : Int) ∧ s < 18446744073709551616 ∧ a + x * 2 ^ b % 18446744073709551616 = s := by
  have e : 18446744073709551616 = 2 ^ b * 2 ^ (64 - b) := by rw [← Nat.pow_add, show b + (64 - b) = 64 by omega]
  have h2 : x * 2 ^ b % 18446744073709551616 = 2 ^ b * (x % 2 ^ (64 - b)) := by rw [e, Nat.mul_comm x, Nat.mul_mod_mul_left]
  have h3 : x * 2 ^ b % 18446744073709551616 % 2 ^ b = 0 := by rw [h2, Nat.mul_mod_right]
  have h4 : a < 18446744073709551616 := Nat.lt_of_lt_of_le ha (by rw [e]; exact Nat.le_mul_of_pos_right _ (Nat.two_pow_pos _))
  have h5 := Nat.mod_lt (x * 2 ^ b) (show 0 < 18446744073709551616 by omega)
  refine ⟨_, or64 _ _ b ha h3 h4 h5, ?_, rfl⟩
  rw [h2, e]
  have h6 : x % 2 ^ (64 - b) + 1 ≤ 2 ^ (64 - b) := Nat.mod_lt _ (Nat.two_pow_pos _)
  have h7 : 2 ^ b * (x % 2 ^ (64 - b) + 1) ≤ 2 ^ b * 2 ^ (64 - b) := Nat.mul_le_mul_left _ h6
  rw [Nat.mul_add, Nat.mul_one] at h7
  omega
theorem word_low (n k : Nat) (hk : k < 4) : lowB n (8 * (k + 1)) = lowB n (8 * k) ++ lowB ((w64 n).getD k 0) 8 := by
  rw [Nat.mul_add, Nat.mul_one, lowB_add]
  have h : k = 0 ∨ k = 1 ∨ k = 2 ∨ k = 3 := by omega
  rcases h with rfl | rfl | rfl | rfl <;> simp only [w64, List.getD_cons_zero, List.getD_cons_succ, lowB_mod] <;> simp

set_option maxHeartbeats 4000000 in
theorem Key_any (n : Nat) (hn : n < pF) (w : World) :
    Calls Try.prog 25 #[.agg (natsC (elemL n))] w (RetV w (keyV (lowB n 32))) := by
  have HKS := Lib.hid (key_step n)
  have HN : Hid (n % Mx ^ 5 = n) := Nat.mod_eq_of_lt (Nat.lt_trans hn pF_lt)
  have HX := Lib.hid (fun k => getD_lt (elemL_lt n) Mx_pos k)
  have HKL : Hid (∀ k, k ≤ 4 → (fillB (lowB n (8 * k)) 32).length = 32) := fun k hk => fillB_length _ _ (by rw [lowB_length]; omega)
  clear hn
  have E0 := Env.start w
  go_enter Try.func25, Try.ntmps25
  go_wp2_with (first
    | ((with_reducible refine wpE_box (o := ⟨some 1, _, _, _, _, _⟩) rfl 45 (.tmp 0) rfl (natsC (elemL n)) (by with_unfolding_all rfl) E0 ?_); intro g1 w1 E1)
    | ((with_reducible refine wpE_alloc (o := ⟨some 2, _, _, _, _, _⟩) rfl 23 rfl (keyC (zeroKey)) Try.zeroK E1 ?_); intro g2 w2 E2)
    | ((with_reducible refine wpE_alloc (o := ⟨some 3, _, _, _, _, _⟩) rfl 42 rfl (natsC (zero5)) Try.zero5w E2 ?_); intro g3 w3 E3)
    | (with_reducible refine wpE_load (o := ⟨some 11, _, _, _, _, _⟩) rfl 43 (.tmp 10) rfl 2 g1 45 (natsC (elemL n)) _ (by with_unfolding_all rfl) (by with_unfolding_all rfl) Try.underlying43 rfl (sizeN Try.sz5p _ (elemL_length n)) E3 ?_))
  have E4 := Lib.hid E3
  clear E0 E1 E2 E3
  go_loopw [12] (fun i wr => ∃ k : Nat, k ≤ 5 ∧ i = .int .i64 k ∧ Env w [(g3, 42, natsC (w64 (n % Mx ^ k))), (g2, 23, keyC zeroKey), (g1, 45, natsC (elemL n))] wr) (fun i _ => 5 - (intOf i).toNat)
  case atStart => exact ⟨0, by omega, rfl, by rw [Nat.pow_zero, Nat.mod_one, w64_zero]; exact E4.out⟩
  case round =>
    clear E4
    obtain ⟨k, hk, rfl, hE⟩ := hrel
    have E := Lib.hid hE
    clear hE
    by_cases hlt : k < 5
    · have hix := fun W => run_indexN (P := Try.prog) W 43 39 5 (elemL n) k Try.underlying43 Try.underlying39 Try.szU64 (elemL_length n) hlt
      have PL := Lib.hid (fun w => place_any w k hlt)
      obtain ⟨s1, s2, s3⟩ := HKS.out k hlt
      have hx := HX.out k
      obtain ⟨wd, hwd⟩ : ∃ v, v = 51 * k / 64 := ⟨_, rfl⟩
      obtain ⟨bb, hbb⟩ : ∃ v, v = 51 * k % 64 := ⟨_, rfl⟩
      rw [← hwd] at PL s1 s2 s3
      rw [← hbb] at PL s1 s3
      have hw0 : wd < 4 := by omega
      have hw1 : (wd : Int) < 5 := by omega
      have hw2 : (wd : Int) + 1 < 5 := by omega
      have hb1 : bb < 64 := by omega
      have hln := w64_length (n % Mx ^ k)
      have hall := w64_lt (n % Mx ^ k)
      have c1 := E.out.getN 0 rfl wd (by rw [hln]; omega)
      have f1 := E.out.fzN 0 rfl wd
      generalize (elemL n).getD k 0 = x at hix hx s3
      obtain ⟨cc, hcc⟩ : ∃ v, v = 64 - bb := ⟨_, rfl⟩
      have hsub : IntKind.u64.wrap (64 - (bb : Int)) = (cc : Int) := by rw [IntKind.wrap_u64]; omega
      rw [← hcc] at s3
      have hcl : cc ≤ 64 := by omega
      have hx64 : x < 18446744073709551616 := Nat.lt_trans hx (by decide)
      have hov : (w64 (n % Mx ^ k)).getD wd 0 < 18446744073709551616 := getD_lt hall (by omega) wd
      obtain ⟨u, hu1, hu2, hu3⟩ := over_word ((w64 (n % Mx ^ k)).getD wd 0) x bb hb1 s1
      obtain ⟨q, hq⟩ : ∃ v, v = x * 2 ^ bb % 18446744073709551616 := ⟨_, rfl⟩
      obtain ⟨r, hr⟩ : ∃ v, v = x / 2 ^ cc := ⟨_, rfl⟩
      have hd1 : IntKind.u64.wrap ((x : Int) * 2 ^ bb) = (q : Int) := by rw [IntKind.wrap_u64, hq]; simp
      have hd2 : (x : Int) / 2 ^ cc = (r : Int) := by rw [hr]; simp
      have hrl : r < 18446744073709551616 := by rw [hr]; exact Nat.lt_of_le_of_lt (Nat.div_le_self _ _) hx64
      rw [← hq] at hu1 hu3 s3
      rw [← hr, hu3] at s3
      have hor0 : bits .or .u64 0 (r : Int) = (r : Int) := by
        have h := or64 0 r 0 (by decide) (Nat.mod_one _) (by decide) hrl
        rw [Nat.zero_add] at h
        exact h
      have E5 := E.out.cellN 0 rfl wd u
      simp only [List.set_cons_zero] at E5
      have c2 := E5.getN 0 rfl (wd + 1) (by rw [List.length_set, hln]; omega)
      have f2 := E5.fzN 0 rfl (wd + 1)
      rw [show ((w64 (n % Mx ^ k)).set wd u).getD (wd + 1) 0 = 0 from (getD_set_far _ _ _ _ (Nat.ne_of_lt (Nat.lt_succ_self _))).trans s2] at c2
      have E6 := E5.cellN 0 rfl (wd + 1) r
      simp only [List.set_cons_zero] at E6
      rw [s3] at E6
      have HE6 := Lib.hid E6
      generalize (w64 (n % Mx ^ k)).getD wd 0 = old at c1 hu1
      have hk5 : (k : Int) < 5 := by omega
      clear s1 s2 s3 hx hcc hq hr hx64 hov hln hall hu3 E5 E6 hwd hbb
      go_wp2_with ((with_reducible refine (PL.out _).mono ?_); rintro e w' ⟨rfl, rfl⟩)
      go_roundw
      case rel => exact ⟨k + 1, by omega, by go_num, HE6.out⟩
      case measure => simp [intOf]; omega
    · have hk5 : k = 5 := by omega
      have E5 := E.out
      rw [hk5, HN.out] at E5
      have E6 := Lib.hid E5
      clear E5 E hk5
      go_wp2_with ((with_reducible refine wpE_allocF (o := ⟨some 8, _, _, _, _, _⟩) rfl 23 rfl (keyC zeroKey) Try.zeroK E6.out ?_); intro g4 w4 E7 hF)
      have E8 := Lib.hid E7
      have HF := Lib.hid hF
      clear E7 E6 hF
      go_loopw [40] (fun i wr => ∃ k : Nat, k ≤ 4 ∧ i = .int .i64 k ∧ Env w [(g4, 23, keyC (fillB (lowB n (8 * k)) 32)), (g3, 42, natsC (w64 n)), (g2, 23, keyC zeroKey), (g1, 45, natsC (elemL n))] wr) (fun i _ => 4 - (intOf i).toNat)
      case atStart => exact ⟨0, by omega, rfl, E8.out⟩
      case round =>
        clear E8
        obtain ⟨k, hk, rfl, hE⟩ := hrel
        have E := Lib.hid hE
        clear hE
        by_cases hlt4 : k < 4
        · have hsl := fun x : World => run_sliceArrL (P := Try.prog) x 23 5 32 Try.underlying23 Try.sizeB g4 0 (8 * k) (8 * (k : Int)) (by omega) (by omega)
          rw [Nat.zero_add] at hsl
          have hwl := word_low n k hlt4
          have c1 := E.out.getN 1 rfl k (by rw [w64_length]; omega)
          have hxw := getD_lt (w64_lt n) (by omega) k
          generalize (w64 n).getD k 0 = x at hwl c1 hxw
          have HWL := Lib.hid hwl
          have hdl := lowB_length x 8
          have HD := Lib.hid hdl
          have hll := lowB_length n (8 * k)
          have HLL := Lib.hid hll
          have hq : 8 * (k : Int) < 32 := by omega
          have hk5 : (k : Int) < 5 := by omega
          have hs4 : 8 * k + 8 ≤ 32 := by omega
          have hw8 : IntKind.i64.wrap (8 * (k : Int)) = 8 * (k : Int) := IntWalk.i64_in _ (by omega)
          have R4 := Lib.hid (E.out.row 0 rfl)
          have hg4r : g4 ≤ wr.heap.size := by have := R4.out.lt; omega
          clear hwl hdl hll
          go_wp2_with fail
          go_region_law (first
            | (go_simp; go_at_call 45; refine (Low_in _ x 8 (by omega) (by omega) (by omega)).mono ?_; rintro e w3 ⟨_, rfl, hbs, b3⟩; have HS := Lib.hid hbs; obtain ⟨A, c, rfl, h1, h2, h3⟩ := hbs; clear h1 h2 h3)
            | (refine step_copy_splice rfl (.tmp 45) (.tmp 49) 41 41 rfl 5 Try.underlying41 Try.sizeB (some ⟨g4, 8 * k, none⟩) A (32 - 8 * k) (32 - 8 * k) (lowB x 8).length c rfl rfl g4 (8 * k) (cellsB (fillB (lowB n (8 * k)) 32)) 23 (R4.out.drew.kept b3) (cellsB (lowB x 8)) (by rw [cellsB_length, HD.out]; show 8 = min 8 _; omega) (copy_from HS.out) (by rw [cellsB_length, cellsB_length, fillB_length _ _ (by rw [HLL.out]; omega), HD.out]; omega) (cellsB_one _) g4 wr ((Below.refl g4 wr).drew.trans (b3.mono hg4r)) (Nat.le_refl _) ?_; intro w4 hr4 hb4))
          have hr5 := hr4.out
          rw [splice_bytes] at hr5
          have hst := fillB_step (lowB n (8 * k)) (lowB x 8) 32 (by rw [HLL.out, HD.out]; omega)
          rw [HLL.out] at hst
          rw [hst, ← HWL.out] at hr5
          have E9 := Lib.hid (E.out.over HF.out hb4 hr5)
          clear hr5 hr4 hst hb4 hsl c1
          go_wp2
          go_roundw
          case rel => exact ⟨k + 1, by omega, by go_num, E9.out⟩
          case measure => simp [intOf]; omega
        · have hk4 : k = 4 := by omega
          have E9 := E.out
          rw [hk4, fillB_all _ _ (lowB_length n 32)] at E9
          have E10 := Lib.hid E9
          clear E9 E hk4
          go_wp2_with (first
            | (with_reducible refine wpE_load (o := ⟨some 52, _, _, _, _, _⟩) rfl 23 (.tmp 8) rfl 0 g4 23 (keyC (lowB n 32)) _ (by with_unfolding_all rfl) (by with_unfolding_all rfl) Try.underlying23 rfl (Try.sizeKey _ (lowB_length n 32)) E10.out ?_)
            | ((with_reducible refine wpE_store (o := ⟨none, _, _, _, _, _⟩) rfl 23 (.tmp 2) (.tmp 52) rfl 2 g2 23 (keyC (zeroKey)) (keyC (lowB n 32)) (by with_unfolding_all rfl) (by with_unfolding_all rfl) (by with_unfolding_all rfl) (keyC_same zeroKey_length (lowB_length n 32)) (Try.sizeKey _ (lowB_length n 32)) (keyC_one _) E10.out ?_); intro w9 E11; simp only [List.set_cons_zero, List.set_cons_succ] at E11))
          exact bodyPost_ret (results_cell_row rfl _ _ g2 23 (keyC (lowB n 32)) (0, 0) _ rfl (E11.row 2 rfl) Try.underlying23 rfl (Try.sizeKey _ (lowB_length n 32))) rfl (E11.ret _)
end Go.Proofs.Ytpgjcmccfpjmoaa
