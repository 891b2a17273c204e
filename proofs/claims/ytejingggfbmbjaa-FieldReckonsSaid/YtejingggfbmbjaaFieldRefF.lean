/-
  Contracts of the document's Power, Invert (layer 6). Conditions: the number is below p.
-/
import Derived.Test.YtejingggfbmbjaaFieldRefE
namespace Go.Proofs.Ytejingggfbmbjaa
open Go.RowKit
set_option linter.unusedVariables false
set_option maxRecDepth 20000

theorem pow_twice (a e : Nat) : powF a e * powF a e % pF = powF a (2 * e) := by rw [powF_mul, Nat.two_mul]
theorem pow_more (a e : Nat) (ha : a < pF) : powF a e * a % pF = powF a (e + 1) := by
  have h := powF_mul a e 1
  rwa [powF_one a ha] at h
theorem half_next (n m : Nat) : n / 2 ^ m = 2 * (n / 2 ^ (m + 1)) + n / 2 ^ m % 2 := by
  rw [Nat.pow_succ, ← Nat.div_div_eq_div_mul]
  omega
theorem and_one (q : Nat) (h : q < 18446744073709551616) : bits .and .u64 (q : Int) 1 = ((q % 2 : Nat) : Int) := by
  have h1 := u64_and_nat q 1 h (by omega)
  rw [show ((1 : Nat) : Int) = 1 from rfl] at h1
  rw [h1]
  congr 1
  exact Nat.and_one_is_mod q

set_option maxHeartbeats 4000000 in
theorem refPower_any (a : Nat) (ha : a < pF) (N : Nat) (hN : N < 18446744073709551616) (w : World) :
    Calls Try.prog 30 #[.agg (natsC (digR 16 a)), .int .u64 (N : Int)] w (RetV w (.agg (natsC (digR 16 (powF a N))))) := by
  have HO : Hid (∀ w, Calls Try.prog 18 #[.int .u64 1] w (RetV w (.agg (natsC (digR 16 1))))) := fun w => refSmall_any 1 (by omega) w
  have HM : Hid (∀ e w, Calls Try.prog 24 #[.agg (natsC (digR 16 (powF a e))), .agg (natsC (digR 16 (powF a e)))] w (RetV w (.agg (natsC (digR 16 (powF a (2 * e))))))) := fun e w => by
    have h := refMul_any (powF a e) (powF a e) (powF_lt _ _) (powF_lt _ _) w
    rwa [pow_twice] at h
  have HX : Hid (∀ e w, Calls Try.prog 24 #[.agg (natsC (digR 16 (powF a e))), .agg (natsC (digR 16 a))] w (RetV w (.agg (natsC (digR 16 (powF a (e + 1))))))) := fun e w => by
    have h := refMul_any (powF a e) a (powF_lt _ _) ha w
    rwa [pow_more a e ha] at h
  have HN := Lib.hid hN
  have H0 : Hid (digR 16 1 = digR 16 (powF a (N / 2 ^ 64))) := by
    show _ = _
    rw [Nat.div_eq_of_lt HN.out]
    unfold powF
    rw [Nat.pow_zero, Nat.mod_eq_of_lt (by decide)]
  clear ha
  have E0 := Env.start w
  go_enter Try.func30, Try.ntmps30
  go_wp2_with (first
    | ((with_reducible refine wpE_box (o := ⟨some 2, _, _, _, _, _⟩) rfl 33 (.tmp 0) rfl (natsC (digR 16 a)) (by with_unfolding_all rfl) E0 ?_); intro g1 w1 E1)
    | ((with_reducible refine wpE_alloc (o := ⟨some 4, _, _, _, _, _⟩) rfl 33 rfl (natsC (zero16)) Try.zero16 E1 ?_); intro g2 w2 E2)
    | ((with_reducible refine (HO.out _).mono ?_); rintro e w3 ⟨rfl, b_w3⟩; have E3 := E2.call b_w3; clear b_w3)
    | ((with_reducible refine wpE_alloc (o := ⟨some 5, _, _, _, _, _⟩) rfl 33 rfl (natsC (zero16)) Try.zero16 E3 ?_); intro g3 w4 E4)
    | ((with_reducible refine wpE_store (o := ⟨none, _, _, _, _, _⟩) rfl 33 (.tmp 5) (.tmp 7) rfl 0 g3 33 (natsC (zero16)) (natsC (digR 16 1)) (by with_unfolding_all rfl) (by with_unfolding_all rfl) (by with_unfolding_all rfl) (natsC_same zero16_length (digR_length 16 _)) (sizeN Try.sz16 _ (digR_length 16 _)) (natsC_one _) E4 ?_); intro w5 E5; simp only [List.set_cons_zero] at E5))
  rw [H0.out] at E5
  have E6 := Lib.hid E5
  clear E0 E1 E2 E3 E4 E5
  go_loopw [6] (fun i wr => ∃ k : Nat, k ≤ 64 ∧ i = .int .i64 ((k : Int) - 1) ∧ Env w [(g3, 33, natsC (digR 16 (powF a (N / 2 ^ k)))), (g2, 33, natsC zero16), (g1, 33, natsC (digR 16 a))] wr) (fun i _ => (intOf i + 1).toNat)
  case atStart => exact ⟨64, by omega, rfl, E6.out⟩
  case round =>
    clear E6
    obtain ⟨k, hk, rfl, hE⟩ := hrel
    have E := Lib.hid hE
    clear hE
    rcases k with _ | m
    · have E4 := E.out
      rw [Nat.pow_zero, Nat.div_one] at E4
      have HE := Lib.hid E4
      clear E4 E
      go_wp2_with (first
        | (with_reducible refine wpE_load (o := ⟨some 23, _, _, _, _, _⟩) rfl 33 (.tmp 5) rfl 0 g3 33 (natsC (digR 16 (powF a N))) _ (by with_unfolding_all rfl) (by with_unfolding_all rfl) Try.underlying33 rfl (sizeN Try.sz16 _ (digR_length 16 _)) HE.out ?_)
        | ((with_reducible refine wpE_store (o := ⟨none, _, _, _, _, _⟩) rfl 33 (.tmp 4) (.tmp 23) rfl 1 g2 33 (natsC (zero16)) (natsC (digR 16 (powF a N))) (by with_unfolding_all rfl) (by with_unfolding_all rfl) (by with_unfolding_all rfl) (natsC_same zero16_length (digR_length 16 _)) (sizeN Try.sz16 _ (digR_length 16 _)) (natsC_one _) HE.out ?_); intro w9 E9; simp only [List.set_cons_zero, List.set_cons_succ] at E9))
      exact bodyPost_ret (results_cell_row rfl _ _ g2 33 (natsC (digR 16 (powF a N))) (0, 0) _ rfl (E9.row 1 rfl) Try.underlying33 rfl (sizeN Try.sz16 _ (digR_length 16 _))) rfl (E9.ret _)
    · have hhalf := half_next N m
      have hi0 : ((m + 1 : Nat) : Int) - 1 = (m : Int) := by omega
      rw [hi0]
      have hm0 : (0 : Int) ≤ (m : Int) := by omega
      have E4 := E.out
      obtain ⟨e, he⟩ : ∃ e, e = N / 2 ^ (m + 1) := ⟨_, rfl⟩
      rw [← he] at E4 hhalf
      have E5 := Lib.hid E4
      have HH := Lib.hid hhalf
      clear he hi0 E4 E hhalf
      have hq : N / 2 ^ m < 18446744073709551616 := Nat.lt_of_le_of_lt (Nat.div_le_self _ _) HN.out
      obtain ⟨q, hq2⟩ : ∃ q, q = N / 2 ^ m := ⟨_, rfl⟩
      have hd : (N : Int) / 2 ^ m = (q : Int) := by rw [hq2]; simp
      have hand := and_one q (by rw [hq2]; exact hq)
      have HQ := Lib.hid hq2
      have hm63 : m < 64 := by omega
      rcases Nat.mod_two_eq_zero_or_one q with hb | hb
      · have HB : Hid (N / 2 ^ m = 2 * e) := by show _ = _; rw [HH.out, ← HQ.out, hb]; rfl
        rw [hb] at hand
        have hand2 : bits .and .u64 (q : Int) 1 = 0 := hand
        clear hb hq hq2 hand
        go_wp2_with (first
          | (with_reducible refine wpE_load (o := ⟨some 12, _, _, _, _, _⟩) rfl 33 (.tmp 5) rfl 0 g3 33 (natsC (digR 16 (powF a e))) _ (by with_unfolding_all rfl) (by with_unfolding_all rfl) Try.underlying33 rfl (sizeN Try.sz16 _ (digR_length 16 _)) E5.out ?_)
          | (with_reducible refine wpE_load (o := ⟨some 13, _, _, _, _, _⟩) rfl 33 (.tmp 5) rfl 0 g3 33 (natsC (digR 16 (powF a e))) _ (by with_unfolding_all rfl) (by with_unfolding_all rfl) Try.underlying33 rfl (sizeN Try.sz16 _ (digR_length 16 _)) E5.out ?_)
          | ((with_reducible refine (HM.out e _).mono ?_); rintro e1 w6 ⟨rfl, b6⟩; have E7 := Lib.hid (E5.out.call b6); clear b6)
          | ((with_reducible refine wpE_store (o := ⟨none, _, _, _, _, _⟩) rfl 33 (.tmp 5) (.tmp 14) rfl 0 g3 33 (natsC (digR 16 (powF a e))) (natsC (digR 16 (powF a (2 * e)))) (by with_unfolding_all rfl) (by with_unfolding_all rfl) (by with_unfolding_all rfl) (natsC_same (digR_length 16 _) (digR_length 16 _)) (sizeN Try.sz16 _ (digR_length 16 _)) (natsC_one _) E7.out ?_); intro w8 E8; simp only [List.set_cons_zero] at E8))
        go_roundw
        case rel => exact ⟨m, by omega, rfl, by rw [HB.out]; exact E8⟩
        case measure => simp [intOf]
      · have HB : Hid (N / 2 ^ m = 2 * e + 1) := by show _ = _; rw [HH.out, ← HQ.out, hb]
        rw [hb] at hand
        have hand2 : bits .and .u64 (q : Int) 1 = 1 := hand
        clear hb hq hq2 hand
        go_wp2_with (first
          | (with_reducible refine wpE_load (o := ⟨some 12, _, _, _, _, _⟩) rfl 33 (.tmp 5) rfl 0 g3 33 (natsC (digR 16 (powF a e))) _ (by with_unfolding_all rfl) (by with_unfolding_all rfl) Try.underlying33 rfl (sizeN Try.sz16 _ (digR_length 16 _)) E5.out ?_)
          | (with_reducible refine wpE_load (o := ⟨some 13, _, _, _, _, _⟩) rfl 33 (.tmp 5) rfl 0 g3 33 (natsC (digR 16 (powF a e))) _ (by with_unfolding_all rfl) (by with_unfolding_all rfl) Try.underlying33 rfl (sizeN Try.sz16 _ (digR_length 16 _)) E5.out ?_)
          | ((with_reducible refine (HM.out e _).mono ?_); rintro e1 w6 ⟨rfl, b6⟩; have E7 := Lib.hid (E5.out.call b6); clear b6)
          | ((with_reducible refine wpE_store (o := ⟨none, _, _, _, _, _⟩) rfl 33 (.tmp 5) (.tmp 14) rfl 0 g3 33 (natsC (digR 16 (powF a e))) (natsC (digR 16 (powF a (2 * e)))) (by with_unfolding_all rfl) (by with_unfolding_all rfl) (by with_unfolding_all rfl) (natsC_same (digR_length 16 _) (digR_length 16 _)) (sizeN Try.sz16 _ (digR_length 16 _)) (natsC_one _) E7.out ?_); intro w8 E8; simp only [List.set_cons_zero] at E8)
          | (with_reducible refine wpE_load (o := ⟨some 20, _, _, _, _, _⟩) rfl 33 (.tmp 5) rfl 0 g3 33 (natsC (digR 16 (powF a (2 * e)))) _ (by with_unfolding_all rfl) (by with_unfolding_all rfl) Try.underlying33 rfl (sizeN Try.sz16 _ (digR_length 16 _)) E8 ?_)
          | (with_reducible refine wpE_load (o := ⟨some 21, _, _, _, _, _⟩) rfl 33 (.tmp 2) rfl 2 g1 33 (natsC (digR 16 a)) _ (by with_unfolding_all rfl) (by with_unfolding_all rfl) Try.underlying33 rfl (sizeN Try.sz16 _ (digR_length 16 _)) E8 ?_)
          | ((with_reducible refine (HX.out (2 * e) _).mono ?_); rintro e2 w10 ⟨rfl, b10⟩; have E11 := Lib.hid (E8.call b10); clear b10)
          | ((with_reducible refine wpE_store (o := ⟨none, _, _, _, _, _⟩) rfl 33 (.tmp 5) (.tmp 22) rfl 0 g3 33 (natsC (digR 16 (powF a (2 * e)))) (natsC (digR 16 (powF a (2 * e + 1)))) (by with_unfolding_all rfl) (by with_unfolding_all rfl) (by with_unfolding_all rfl) (natsC_same (digR_length 16 _) (digR_length 16 _)) (sizeN Try.sz16 _ (digR_length 16 _)) (natsC_one _) E11.out ?_); intro w12 E12; simp only [List.set_cons_zero] at E12))
        go_roundw
        case rel => exact ⟨m, by omega, rfl, by rw [HB.out]; exact E12⟩
        case measure => simp [intOf]

theorem inv_bits : ∀ m, m < 255 → (pF - 2) / 2 ^ m % 2 = if m = 2 ∨ m = 4 then 0 else 1 := by
  intro m hm
  have h : ((List.range 255).all fun m => (pF - 2) / 2 ^ m % 2 == if m = 2 ∨ m = 4 then 0 else 1) = true := by decide +kernel
  exact beq_iff_eq.1 (List.all_eq_true.1 h m (List.mem_range.2 hm))
set_option maxHeartbeats 4000000 in
theorem refInvert_any (a : Nat) (ha : a < pF) (w : World) :
    Calls Try.prog 31 #[.agg (natsC (digR 16 a))] w (RetV w (.agg (natsC (digR 16 (powF a (pF - 2)))))) := by
  have HO : Hid (∀ w, Calls Try.prog 18 #[.int .u64 1] w (RetV w (.agg (natsC (digR 16 1))))) := fun w => refSmall_any 1 (by omega) w
  have HM : Hid (∀ e w, Calls Try.prog 24 #[.agg (natsC (digR 16 (powF a e))), .agg (natsC (digR 16 (powF a e)))] w (RetV w (.agg (natsC (digR 16 (powF a (2 * e))))))) := fun e w => by
    have h := refMul_any (powF a e) (powF a e) (powF_lt _ _) (powF_lt _ _) w
    rwa [pow_twice] at h
  have HX : Hid (∀ e w, Calls Try.prog 24 #[.agg (natsC (digR 16 (powF a e))), .agg (natsC (digR 16 a))] w (RetV w (.agg (natsC (digR 16 (powF a (e + 1))))))) := fun e w => by
    have h := refMul_any (powF a e) a (powF_lt _ _) ha w
    rwa [pow_more a e ha] at h
  have HBIT := Lib.hid inv_bits
  have HZ : Hid ((pF - 2) / 2 ^ 255 = 0) := by show _ = _; decide +kernel
  obtain ⟨N, hN⟩ : ∃ N, N = pF - 2 := ⟨_, rfl⟩
  rw [← hN] at HBIT HZ ⊢
  clear hN
  have H0 : Hid (digR 16 1 = digR 16 (powF a (N / 2 ^ 255))) := by
    show _ = _
    rw [HZ.out]
    unfold powF
    rw [Nat.pow_zero, Nat.mod_eq_of_lt (by decide)]
  clear ha
  have E0 := Env.start w
  go_enter Try.func31, Try.ntmps31
  go_wp2_with (first
    | ((with_reducible refine wpE_box (o := ⟨some 1, _, _, _, _, _⟩) rfl 33 (.tmp 0) rfl (natsC (digR 16 a)) (by with_unfolding_all rfl) E0 ?_); intro g1 w1 E1)
    | ((with_reducible refine wpE_alloc (o := ⟨some 2, _, _, _, _, _⟩) rfl 33 rfl (natsC (zero16)) Try.zero16 E1 ?_); intro g2 w2 E2)
    | ((with_reducible refine (HO.out _).mono ?_); rintro e w3 ⟨rfl, b_w3⟩; have E3 := E2.call b_w3; clear b_w3)
    | ((with_reducible refine wpE_alloc (o := ⟨some 3, _, _, _, _, _⟩) rfl 33 rfl (natsC (zero16)) Try.zero16 E3 ?_); intro g3 w4 E4)
    | ((with_reducible refine wpE_store (o := ⟨none, _, _, _, _, _⟩) rfl 33 (.tmp 3) (.tmp 5) rfl 0 g3 33 (natsC (zero16)) (natsC (digR 16 1)) (by with_unfolding_all rfl) (by with_unfolding_all rfl) (by with_unfolding_all rfl) (natsC_same zero16_length (digR_length 16 _)) (sizeN Try.sz16 _ (digR_length 16 _)) (natsC_one _) E4 ?_); intro w5 E5; simp only [List.set_cons_zero] at E5))
  rw [H0.out] at E5
  have E6 := Lib.hid E5
  clear E0 E1 E2 E3 E4 E5
  go_loopw [4] (fun i wr => ∃ k : Nat, k ≤ 255 ∧ i = .int .i64 ((k : Int) - 1) ∧ Env w [(g3, 33, natsC (digR 16 (powF a (N / 2 ^ k)))), (g2, 33, natsC zero16), (g1, 33, natsC (digR 16 a))] wr) (fun i _ => (intOf i + 1).toNat)
  case atStart => exact ⟨255, by omega, rfl, E6.out⟩
  case round =>
    clear E6
    obtain ⟨k, hk, rfl, hE⟩ := hrel
    have E := Lib.hid hE
    clear hE
    rcases k with _ | m
    · have E4 := E.out
      rw [Nat.pow_zero, Nat.div_one] at E4
      have HE := Lib.hid E4
      clear E4 E
      go_wp2_with (first
        | (with_reducible refine wpE_load (o := ⟨some 22, _, _, _, _, _⟩) rfl 33 (.tmp 3) rfl 0 g3 33 (natsC (digR 16 (powF a N))) _ (by with_unfolding_all rfl) (by with_unfolding_all rfl) Try.underlying33 rfl (sizeN Try.sz16 _ (digR_length 16 _)) HE.out ?_)
        | ((with_reducible refine wpE_store (o := ⟨none, _, _, _, _, _⟩) rfl 33 (.tmp 2) (.tmp 22) rfl 1 g2 33 (natsC (zero16)) (natsC (digR 16 (powF a N))) (by with_unfolding_all rfl) (by with_unfolding_all rfl) (by with_unfolding_all rfl) (natsC_same zero16_length (digR_length 16 _)) (sizeN Try.sz16 _ (digR_length 16 _)) (natsC_one _) HE.out ?_); intro w9 E9; simp only [List.set_cons_zero, List.set_cons_succ] at E9))
      exact bodyPost_ret (results_cell_row rfl _ _ g2 33 (natsC (digR 16 (powF a N))) (0, 0) _ rfl (E9.row 1 rfl) Try.underlying33 rfl (sizeN Try.sz16 _ (digR_length 16 _))) rfl (E9.ret _)
    · have hhalf := half_next N m
      have hi0 : ((m + 1 : Nat) : Int) - 1 = (m : Int) := by omega
      rw [hi0]
      have hm0 : (0 : Int) ≤ (m : Int) := by omega
      have E4 := E.out
      obtain ⟨e, he⟩ : ∃ e, e = N / 2 ^ (m + 1) := ⟨_, rfl⟩
      rw [← he] at E4 hhalf
      have E5 := Lib.hid E4
      have HH := Lib.hid hhalf
      clear he hi0 E4 E hhalf
      have hbit := HBIT.out m (by omega)
      by_cases h2 : m = 2
      · have HB : Hid (N / 2 ^ m = 2 * e) := by show _ = _; rw [HH.out, hbit, if_pos (.inl h2)]; rfl
        have t2 : ((m : Int) != 2) = false := by simp; omega
        clear h2 hbit
        go_wp2_with (first
          | (with_reducible refine wpE_load (o := ⟨some 10, _, _, _, _, _⟩) rfl 33 (.tmp 3) rfl 0 g3 33 (natsC (digR 16 (powF a e))) _ (by with_unfolding_all rfl) (by with_unfolding_all rfl) Try.underlying33 rfl (sizeN Try.sz16 _ (digR_length 16 _)) E5.out ?_)
          | (with_reducible refine wpE_load (o := ⟨some 11, _, _, _, _, _⟩) rfl 33 (.tmp 3) rfl 0 g3 33 (natsC (digR 16 (powF a e))) _ (by with_unfolding_all rfl) (by with_unfolding_all rfl) Try.underlying33 rfl (sizeN Try.sz16 _ (digR_length 16 _)) E5.out ?_)
          | ((with_reducible refine (HM.out e _).mono ?_); rintro e1 w6 ⟨rfl, b6⟩; have E7 := Lib.hid (E5.out.call b6); clear b6)
          | ((with_reducible refine wpE_store (o := ⟨none, _, _, _, _, _⟩) rfl 33 (.tmp 3) (.tmp 12) rfl 0 g3 33 (natsC (digR 16 (powF a e))) (natsC (digR 16 (powF a (2 * e)))) (by with_unfolding_all rfl) (by with_unfolding_all rfl) (by with_unfolding_all rfl) (natsC_same (digR_length 16 _) (digR_length 16 _)) (sizeN Try.sz16 _ (digR_length 16 _)) (natsC_one _) E7.out ?_); intro w8 E8; simp only [List.set_cons_zero] at E8))
        go_roundw
        case rel => exact ⟨m, by omega, rfl, by rw [HB.out]; exact E8⟩
        case measure => simp [intOf]
      · have t2 : ((m : Int) != 2) = true := by simp; omega
        by_cases h4 : m = 4
        · have HB : Hid (N / 2 ^ m = 2 * e) := by show _ = _; rw [HH.out, hbit, if_pos (.inr h4)]; rfl
          have t4 : ((m : Int) != 4) = false := by simp; omega
          clear h2 h4 hbit
          go_wp2_with (first
            | (with_reducible refine wpE_load (o := ⟨some 10, _, _, _, _, _⟩) rfl 33 (.tmp 3) rfl 0 g3 33 (natsC (digR 16 (powF a e))) _ (by with_unfolding_all rfl) (by with_unfolding_all rfl) Try.underlying33 rfl (sizeN Try.sz16 _ (digR_length 16 _)) E5.out ?_)
            | (with_reducible refine wpE_load (o := ⟨some 11, _, _, _, _, _⟩) rfl 33 (.tmp 3) rfl 0 g3 33 (natsC (digR 16 (powF a e))) _ (by with_unfolding_all rfl) (by with_unfolding_all rfl) Try.underlying33 rfl (sizeN Try.sz16 _ (digR_length 16 _)) E5.out ?_)
            | ((with_reducible refine (HM.out e _).mono ?_); rintro e1 w6 ⟨rfl, b6⟩; have E7 := Lib.hid (E5.out.call b6); clear b6)
            | ((with_reducible refine wpE_store (o := ⟨none, _, _, _, _, _⟩) rfl 33 (.tmp 3) (.tmp 12) rfl 0 g3 33 (natsC (digR 16 (powF a e))) (natsC (digR 16 (powF a (2 * e)))) (by with_unfolding_all rfl) (by with_unfolding_all rfl) (by with_unfolding_all rfl) (natsC_same (digR_length 16 _) (digR_length 16 _)) (sizeN Try.sz16 _ (digR_length 16 _)) (natsC_one _) E7.out ?_); intro w8 E8; simp only [List.set_cons_zero] at E8))
          go_roundw
          case rel => exact ⟨m, by omega, rfl, by rw [HB.out]; exact E8⟩
          case measure => simp [intOf]
        · have HB : Hid (N / 2 ^ m = 2 * e + 1) := by show _ = _; rw [HH.out, hbit, if_neg (by omega)]
          have t4 : ((m : Int) != 4) = true := by simp; omega
          clear h2 h4 hbit
          go_wp2_with (first
            | (with_reducible refine wpE_load (o := ⟨some 10, _, _, _, _, _⟩) rfl 33 (.tmp 3) rfl 0 g3 33 (natsC (digR 16 (powF a e))) _ (by with_unfolding_all rfl) (by with_unfolding_all rfl) Try.underlying33 rfl (sizeN Try.sz16 _ (digR_length 16 _)) E5.out ?_)
            | (with_reducible refine wpE_load (o := ⟨some 11, _, _, _, _, _⟩) rfl 33 (.tmp 3) rfl 0 g3 33 (natsC (digR 16 (powF a e))) _ (by with_unfolding_all rfl) (by with_unfolding_all rfl) Try.underlying33 rfl (sizeN Try.sz16 _ (digR_length 16 _)) E5.out ?_)
            | ((with_reducible refine (HM.out e _).mono ?_); rintro e1 w6 ⟨rfl, b6⟩; have E7 := Lib.hid (E5.out.call b6); clear b6)
            | ((with_reducible refine wpE_store (o := ⟨none, _, _, _, _, _⟩) rfl 33 (.tmp 3) (.tmp 12) rfl 0 g3 33 (natsC (digR 16 (powF a e))) (natsC (digR 16 (powF a (2 * e)))) (by with_unfolding_all rfl) (by with_unfolding_all rfl) (by with_unfolding_all rfl) (natsC_same (digR_length 16 _) (digR_length 16 _)) (sizeN Try.sz16 _ (digR_length 16 _)) (natsC_one _) E7.out ?_); intro w8 E8; simp only [List.set_cons_zero] at E8)
            | (with_reducible refine wpE_load (o := ⟨some 19, _, _, _, _, _⟩) rfl 33 (.tmp 3) rfl 0 g3 33 (natsC (digR 16 (powF a (2 * e)))) _ (by with_unfolding_all rfl) (by with_unfolding_all rfl) Try.underlying33 rfl (sizeN Try.sz16 _ (digR_length 16 _)) E8 ?_)
            | (with_reducible refine wpE_load (o := ⟨some 20, _, _, _, _, _⟩) rfl 33 (.tmp 1) rfl 2 g1 33 (natsC (digR 16 a)) _ (by with_unfolding_all rfl) (by with_unfolding_all rfl) Try.underlying33 rfl (sizeN Try.sz16 _ (digR_length 16 _)) E8 ?_)
            | ((with_reducible refine (HX.out (2 * e) _).mono ?_); rintro e2 w10 ⟨rfl, b10⟩; have E11 := Lib.hid (E8.call b10); clear b10)
            | ((with_reducible refine wpE_store (o := ⟨none, _, _, _, _, _⟩) rfl 33 (.tmp 3) (.tmp 21) rfl 0 g3 33 (natsC (digR 16 (powF a (2 * e)))) (natsC (digR 16 (powF a (2 * e + 1)))) (by with_unfolding_all rfl) (by with_unfolding_all rfl) (by with_unfolding_all rfl) (natsC_same (digR_length 16 _) (digR_length 16 _)) (sizeN Try.sz16 _ (digR_length 16 _)) (natsC_one _) E11.out ?_); intro w12 E12; simp only [List.set_cons_zero] at E12))
          go_roundw
          case rel => exact ⟨m, by omega, rfl, by rw [HB.out]; exact E12⟩
          case measure => simp [intOf]
end Go.Proofs.Ytejingggfbmbjaa
