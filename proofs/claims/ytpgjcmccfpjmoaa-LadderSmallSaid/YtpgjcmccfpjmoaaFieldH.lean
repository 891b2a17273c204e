/-
  Contracts of the field's squared, ones, Power, Invert. Conditions: the number is below p.
-/
import Derived.Test.YtpgjcmccfpjmoaaFieldG
namespace Go.Proofs.Ytpgjcmccfpjmoaa
open Go.RowKit
set_option linter.unusedVariables false
set_option maxRecDepth 20000

theorem modF_lt (a : Nat) : a % pF < pF := Nat.mod_lt _ (by decide)
/-- A power modulo p. -/
def powF (a n : Nat) : Nat := a ^ n % pF
theorem powF_lt (a n : Nat) : powF a n < pF := modF_lt _
theorem powF_one (a : Nat) (h : a < pF) : powF a 1 = a := by unfold powF; rw [Nat.pow_one, Nat.mod_eq_of_lt h]
theorem powF_mul (a m n : Nat) : powF a m * powF a n % pF = powF a (m + n) := by unfold powF; rw [← Nat.mul_mod, Nat.pow_add]
theorem powF_pow (a m n : Nat) : powF (powF a m) n = powF a (m * n) := by unfold powF; rw [← Nat.pow_mod, Nat.pow_mul]

set_option maxHeartbeats 1000000 in
theorem squared_any (a : Nat) (ha : a < pF) (n : Nat) (hn : n ≤ 1000) (w : World) :
    Calls Try.prog 60 #[.agg (natsC (elemL a)), .int .i64 (n : Int)] w (RetV w (.agg (natsC (elemL (powF a (2 ^ n)))))) := by
  have HM : Hid (∀ k w, Calls Try.prog 42 #[.agg (natsC (elemL (powF a (2 ^ k)))), .agg (natsC (elemL (powF a (2 ^ k))))] w (RetV w (.agg (natsC (elemL (powF a (2 ^ (k + 1)))))))) := fun k w => by
    have := Mul_any (powF a (2 ^ k)) (powF a (2 ^ k)) (powF_lt _ _) (powF_lt _ _) w
    rwa [powF_mul, show 2 ^ k + 2 ^ k = 2 ^ (k + 1) by rw [Nat.pow_succ]; omega] at this
  have H0 : Hid (elemL (powF a (2 ^ 0)) = elemL a) := by show _ = _; rw [Nat.pow_zero, powF_one a ha]
  have E0 := Env.start w
  go_enter Try.func60, Try.ntmps60
  go_wp2_with (first
    | ((with_reducible refine wpE_box (o := ⟨some 2, _, _, _, _, _⟩) rfl 45 (.tmp 0) rfl (natsC (elemL a)) (by with_unfolding_all rfl) E0 ?_); intro g1 w1 E1)
    | ((with_reducible refine wpE_alloc (o := ⟨some 4, _, _, _, _, _⟩) rfl 45 rfl (natsC zero5) Try.zero5e E1 ?_); intro g2 w2 E2))
  rw [← H0.out] at E2
  have E3 := Lib.hid E2
  clear E0 E1 E2
  go_loopw [6] (fun i wr => ∃ k : Nat, k ≤ n ∧ i = .int .i64 k ∧ Env w [(g2, 45, natsC zero5), (g1, 45, natsC (elemL (powF a (2 ^ k))))] wr) (fun i _ => n - (intOf i).toNat)
  case atStart => exact ⟨0, by omega, rfl, E3.out⟩
  case round =>
    clear E3
    obtain ⟨k, hk, rfl, hE⟩ := hrel
    have E := Lib.hid hE
    clear hE
    by_cases hlt : k < n
    · go_wp2_with (first
        | (with_reducible refine wpE_load (o := ⟨some 8, _, _, _, _, _⟩) rfl 45 (.tmp 2) rfl 1 g1 45 (natsC (elemL (powF a (2 ^ k)))) _ (by with_unfolding_all rfl) (by with_unfolding_all rfl) Try.underlying45 rfl (sizeN Try.sz5e _ (elemL_length _)) E.out ?_)
        | (with_reducible refine wpE_load (o := ⟨some 9, _, _, _, _, _⟩) rfl 45 (.tmp 2) rfl 1 g1 45 (natsC (elemL (powF a (2 ^ k)))) _ (by with_unfolding_all rfl) (by with_unfolding_all rfl) Try.underlying45 rfl (sizeN Try.sz5e _ (elemL_length _)) E.out ?_)
        | ((with_reducible refine (HM.out k _).mono ?_); rintro e w6 ⟨rfl, b6⟩; have E7 := Lib.hid (E.out.call b6); clear b6)
        | ((with_reducible refine wpE_store (o := ⟨none, _, _, _, _, _⟩) rfl 45 (.tmp 2) (.tmp 10) rfl 1 g1 45 (natsC (elemL (powF a (2 ^ k)))) (natsC (elemL (powF a (2 ^ (k + 1))))) (by with_unfolding_all rfl) (by with_unfolding_all rfl) (by with_unfolding_all rfl) (natsC_same (elemL_length _) (elemL_length _)) (sizeN Try.sz5e _ (elemL_length _)) (natsC_one _) E7.out ?_); intro w9 E9; have HE9 := Lib.hid E9; clear E9 E7))
      go_roundw
      case rel => exact ⟨k + 1, by omega, by go_num, HE9.out⟩
      case measure => simp [intOf]; omega
    · have hkn : k = n := by omega
      have E5 := E.out
      rw [hkn] at E5
      have E6 := Lib.hid E5
      clear E5 E hkn
      go_wp2_with (first
        | (with_reducible refine wpE_load (o := ⟨some 12, _, _, _, _, _⟩) rfl 45 (.tmp 2) rfl 1 g1 45 (natsC (elemL (powF a (2 ^ n)))) _ (by with_unfolding_all rfl) (by with_unfolding_all rfl) Try.underlying45 rfl (sizeN Try.sz5e _ (elemL_length _)) E6.out ?_)
        | ((with_reducible refine wpE_store (o := ⟨none, _, _, _, _, _⟩) rfl 45 (.tmp 4) (.tmp 12) rfl 0 g2 45 (natsC zero5) (natsC (elemL (powF a (2 ^ n)))) (by with_unfolding_all rfl) (by with_unfolding_all rfl) (by with_unfolding_all rfl) (natsC_same zero5_length (elemL_length _)) (sizeN Try.sz5e _ (elemL_length _)) (natsC_one _) E6.out ?_); intro w9 E9))
      exact bodyPost_ret (results_cell_row rfl _ _ g2 45 (natsC (elemL (powF a (2 ^ n)))) (0, 0) _ rfl (E9.row 0 rfl) Try.underlying45 rfl (sizeN Try.sz5e _ (elemL_length _))) rfl (E9.ret _)

/-- The power that ones makes: bits one, so far apart, once more than t. -/
def onesE (s : Nat) : Nat → Nat
  | 0 => 1
  | t + 1 => onesE s t * 2 ^ s + 1

set_option maxHeartbeats 1000000 in
theorem ones_any (a : Nat) (ha : a < pF) (s n : Nat) (hs : s ≤ 1000) (hn : n ≤ 1000) (w : World) :
    Calls Try.prog 59 #[.agg (natsC (elemL a)), .int .i64 (s : Int), .int .i64 ((n + 1 : Nat) : Int)] w (RetV w (.agg (natsC (elemL (powF a (onesE s n)))))) := by
  have HS : Hid (∀ k w, Calls Try.prog 60 #[.agg (natsC (elemL (powF a (onesE s k)))), .int .i64 (s : Int)] w (RetV w (.agg (natsC (elemL (powF a (onesE s k * 2 ^ s))))))) := fun k w => by
    have := squared_any (powF a (onesE s k)) (powF_lt _ _) s hs w
    rwa [powF_pow] at this
  have HM : Hid (∀ k w, Calls Try.prog 42 #[.agg (natsC (elemL (powF a (onesE s k * 2 ^ s)))), .agg (natsC (elemL a))] w (RetV w (.agg (natsC (elemL (powF a (onesE s (k + 1)))))))) := fun k w => by
    have := Mul_any (powF a (onesE s k * 2 ^ s)) (powF a 1) (powF_lt _ _) (powF_lt _ _) w
    rwa [powF_mul, powF_one a ha] at this
  have H0 : Hid (elemL a = elemL (powF a (onesE s 0))) := by show _ = _; rw [onesE, powF_one a ha]
  have E0 := Env.start w
  go_enter Try.func59, Try.ntmps59
  go_wp2_with (first
    | ((with_reducible refine wpE_box (o := ⟨some 3, _, _, _, _, _⟩) rfl 45 (.tmp 0) rfl (natsC (elemL a)) (by with_unfolding_all rfl) E0 ?_); intro g1 w1 E1)
    | ((with_reducible refine wpE_alloc (o := ⟨some 6, _, _, _, _, _⟩) rfl 45 rfl (natsC zero5) Try.zero5e E1 ?_); intro g2 w2 E2)
    | (with_reducible refine wpE_load (o := ⟨some 8, _, _, _, _, _⟩) rfl 45 (.tmp 3) rfl 1 g1 45 (natsC (elemL a)) _ (by with_unfolding_all rfl) (by with_unfolding_all rfl) Try.underlying45 rfl (sizeN Try.sz5e _ (elemL_length _)) E2 ?_)
    | ((with_reducible refine wpE_alloc (o := ⟨some 7, _, _, _, _, _⟩) rfl 45 rfl (natsC zero5) Try.zero5e E2 ?_); intro g3 w3 E3)
    | ((with_reducible refine wpE_store (o := ⟨none, _, _, _, _, _⟩) rfl 45 (.tmp 7) (.tmp 8) rfl 0 g3 45 (natsC zero5) (natsC (elemL a)) (by with_unfolding_all rfl) (by with_unfolding_all rfl) (by with_unfolding_all rfl) (natsC_same zero5_length (elemL_length _)) (sizeN Try.sz5e _ (elemL_length _)) (natsC_one _) E3 ?_); intro w4 E4))
  simp only [List.set_cons_zero] at E4
  have E5 : Hid (Env w [(g3, 45, natsC (elemL (powF a (onesE s 0)))), (g2, 45, natsC zero5), (g1, 45, natsC (elemL a))] w4) := by rw [← H0.out]; exact E4
  clear E0 E1 E2 E3 E4
  go_loopw [11] (fun i wr => ∃ k : Nat, k ≤ n ∧ i = .int .i64 k ∧ Env w [(g3, 45, natsC (elemL (powF a (onesE s k)))), (g2, 45, natsC zero5), (g1, 45, natsC (elemL a))] wr) (fun i _ => n - (intOf i).toNat)
  case atStart => exact ⟨0, by omega, rfl, E5.out⟩
  case round =>
    clear E5
    obtain ⟨k, hk, rfl, hE⟩ := hrel
    have E := Lib.hid hE
    clear hE
    by_cases hlt : k < n
    · go_wp2_with fail
      refine region_class_tail 5 _ E.out.drew (by kernel_rfl) (by kernel_rfl) ?_
      simp only [List.take_succ_cons, List.take_zero, List.drop_succ_cons, List.drop_zero]
      refine qE_load (by rfl) _ (.tmp 7) rfl 0 g3 45 (natsC (elemL (powF a (onesE s k)))) _ rfl rfl Try.underlying45 rfl (sizeN Try.sz5e _ (elemL_length _)) ?_
      simp only [Act.put, List.setIfInBounds_toArray, List.set_cons_zero, List.set_cons_succ]
      refine q_run (by rfl) (v := .int .i64 (s : Int)) (fun W _ => by go_simp) ?_
      simp only [Act.put, List.setIfInBounds_toArray, List.set_cons_zero, List.set_cons_succ]
      refine q_call (by rfl) 60 _ (fun W => by go_simp) (fun W hW => hW.calls (HS.out k W)) ?_
      simp only [Act.put, List.setIfInBounds_toArray, List.set_cons_zero, List.set_cons_succ]
      refine qE_load (by rfl) _ (.tmp 3) rfl 2 g1 45 (natsC (elemL a)) _ rfl rfl Try.underlying45 rfl (sizeN Try.sz5e _ (elemL_length _)) ?_
      simp only [Act.put, List.setIfInBounds_toArray, List.set_cons_zero, List.set_cons_succ]
      refine q_call (by rfl) 42 _ (fun W => by go_simp) (fun W hW => hW.calls (HM.out k W)) ?_
      simp only [Act.put, List.setIfInBounds_toArray, List.set_cons_zero, List.set_cons_succ]
      refine wpQuiet_nil ?_
      intro w6 E6
      go_wp2_with (((with_reducible refine wpE_store (o := ⟨none, _, _, _, _, _⟩) rfl 45 (.tmp 7) (.tmp 17) rfl 0 g3 45 (natsC (elemL (powF a (onesE s k)))) (natsC (elemL (powF a (onesE s (k + 1))))) (by with_unfolding_all rfl) (by with_unfolding_all rfl) (by with_unfolding_all rfl) (natsC_same (elemL_length _) (elemL_length _)) (sizeN Try.sz5e _ (elemL_length _)) (natsC_one _) E6 ?_); intro w7 E7); have HE9 := Lib.hid E7; clear E7 E6)
      go_roundw
      case rel => exact ⟨k + 1, by omega, by go_num, HE9.out⟩
      case measure => simp [intOf]; omega
    · have hkn : k = n := by omega
      have E5 := E.out
      rw [hkn] at E5
      have E6 := Lib.hid E5
      clear E5 E hkn
      go_wp2_with (first
        | (with_reducible refine wpE_load (o := ⟨some 19, _, _, _, _, _⟩) rfl 45 (.tmp 7) rfl 0 g3 45 (natsC (elemL (powF a (onesE s n)))) _ (by with_unfolding_all rfl) (by with_unfolding_all rfl) Try.underlying45 rfl (sizeN Try.sz5e _ (elemL_length _)) E6.out ?_)
        | ((with_reducible refine wpE_store (o := ⟨none, _, _, _, _, _⟩) rfl 45 (.tmp 6) (.tmp 19) rfl 1 g2 45 (natsC zero5) (natsC (elemL (powF a (onesE s n)))) (by with_unfolding_all rfl) (by with_unfolding_all rfl) (by with_unfolding_all rfl) (natsC_same zero5_length (elemL_length _)) (sizeN Try.sz5e _ (elemL_length _)) (natsC_one _) E6.out ?_); intro w9 E9))
      exact bodyPost_ret (results_cell_row rfl _ _ g2 45 (natsC (elemL (powF a (onesE s n)))) (0, 0) _ rfl (E9.row 1 rfl) Try.underlying45 rfl (sizeN Try.sz5e _ (elemL_length _))) rfl (E9.ret _)

/-- Whether the last bit is set. -/
theorem powF_odd (a n : Nat) (h : n % 2 = 1) (q : Nat) : powF a q * powF (powF a q) (n - 1) % pF = powF (powF a q) n := by
  have := powF_mul (powF a q) 1 (n - 1)
  rw [powF_one _ (powF_lt _ _)] at this
  rw [this, show 1 + (n - 1) = n by omega]

set_option maxHeartbeats 2000000 in
theorem Power_any (a : Nat) (ha : a < pF) (n : Nat) (hn : n < 18446744073709551616) (w : World) :
    Calls Try.prog 61 #[.agg (natsC (elemL a)), .int .u64 (n : Int)] w (RetV w (.agg (natsC (elemL (powF a n))))) := by
  have HO : Hid (∀ w, Calls Try.prog 38 #[.int .u64 1] w (RetV w (.agg (natsC (elemL 1))))) := fun w => Small_any 1 (by omega) w
  have HM : Hid (∀ u v, u < pF → v < pF → ∀ w, Calls Try.prog 42 #[.agg (natsC (elemL u)), .agg (natsC (elemL v))] w (RetV w (.agg (natsC (elemL (u * v % pF)))))) := fun u v hu hv w => Mul_any u v hu hv w
  have HP : Hid (∀ u, u < pF → u % pF = u) := fun u hu => Nat.mod_eq_of_lt hu
  have HA := Lib.hid ha
  have H1 : Hid (1 < pF) := by show _ < _; decide
  clear ha
  have E0 := Env.start w
  go_enter Try.func61, Try.ntmps61
  go_wp2_with (first
    | ((with_reducible refine wpE_box (o := ⟨some 2, _, _, _, _, _⟩) rfl 45 (.tmp 0) rfl (natsC (elemL a)) (by with_unfolding_all rfl) E0 ?_); intro g1 w1 E1)
    | ((with_reducible refine wpE_alloc (o := ⟨some 4, _, _, _, _, _⟩) rfl 45 rfl (natsC (zero5)) Try.zero5e E1 ?_); intro g2 w2 E2)
    | ((with_reducible refine (HO.out _).mono ?_); rintro e w3 ⟨rfl, b_w3⟩; have E3 := E2.call b_w3; clear b_w3)
    | ((with_reducible refine wpE_alloc (o := ⟨some 5, _, _, _, _, _⟩) rfl 45 rfl (natsC (zero5)) Try.zero5e E3 ?_); intro g3 w4 E4)
    | ((with_reducible refine wpE_store (o := ⟨none, _, _, _, _, _⟩) rfl 45 (.tmp 5) (.tmp 6) rfl 0 g3 45 (natsC (zero5)) (natsC (elemL 1)) (by with_unfolding_all rfl) (by with_unfolding_all rfl) (by with_unfolding_all rfl) (natsC_same zero5_length (elemL_length _)) (sizeN Try.sz5e _ (elemL_length _)) (natsC_one _) E4 ?_); intro w5 E5; simp only [List.set_cons_zero] at E5))
  have E6 := Lib.hid E5
  clear E0 E1 E2 E3 E4 E5
  try simp only [Act.put, List.setIfInBounds_toArray, List.set_cons_zero, List.set_cons_succ]
  go_loopw [1] (fun m wr => ∃ r u v : Nat, r ≤ n ∧ m = .int .u64 (r : Int) ∧ u < pF ∧ v < pF ∧ u * powF v r % pF = powF a n ∧ Env w [(g3, 45, natsC (elemL u)), (g2, 45, natsC zero5), (g1, 45, natsC (elemL v))] wr) (fun m _ => (intOf m).toNat)
  case atStart => exact ⟨n, 1, a, Nat.le_refl _, rfl, H1.out, HA.out, by rw [Nat.one_mul, HP.out _ (powF_lt _ _)], E6.out⟩
  case round =>
    clear E6
    obtain ⟨r, u, v, hr, rfl, hu, hv, hval, hE⟩ := hrel
    have E := Lib.hid hE
    have HU := Lib.hid hu
    have HV := Lib.hid hv
    have HVAL := Lib.hid hval
    clear hE hu hv hval
    by_cases hlt : 0 < r
    · have hr2 : r < 18446744073709551616 := by omega
      by_cases hodd : r % 2 = 1
      · have hod : ((r : Int) % 2) = 1 := by omega
        have hn1 : u * v % pF * powF (v * v % pF) (r / 2) % pF = powF a n := by
          rw [← HVAL.out]
          have e : powF v r = v * powF (v * v % pF) (r / 2) % pF := by
            have e2 : powF (v * v % pF) (r / 2) = powF v (2 * (r / 2)) := by
              rw [← powF_pow]
              unfold powF
              rw [Nat.pow_two]
            have e3 := powF_mul v 1 (2 * (r / 2))
            rw [powF_one v HV.out] at e3
            rw [e2, e3, show 1 + 2 * (r / 2) = r by omega]
          rw [e, Nat.mul_mod_mod, Nat.mod_mul_mod, Nat.mul_assoc]
        have HN := Lib.hid hn1
        clear hn1
        go_wp2_with (first
          | (with_reducible refine wpE_load (o := ⟨some 14, _, _, _, _, _⟩) rfl 45 (.tmp 5) rfl 0 g3 45 (natsC (elemL u)) _ (by with_unfolding_all rfl) (by with_unfolding_all rfl) Try.underlying45 rfl (sizeN Try.sz5e _ (elemL_length _)) E.out ?_)
          | (with_reducible refine wpE_load (o := ⟨some 15, _, _, _, _, _⟩) rfl 45 (.tmp 2) rfl 2 g1 45 (natsC (elemL v)) _ (by with_unfolding_all rfl) (by with_unfolding_all rfl) Try.underlying45 rfl (sizeN Try.sz5e _ (elemL_length _)) E.out ?_)
          | ((with_reducible refine (HM.out u v HU.out HV.out _).mono ?_); rintro e w6 ⟨rfl, b6⟩; have E7 := Lib.hid (E.out.call b6); clear b6)
          | ((with_reducible refine wpE_store (o := ⟨none, _, _, _, _, _⟩) rfl 45 (.tmp 5) (.tmp 16) rfl 0 g3 45 (natsC (elemL u)) (natsC (elemL (u * v % pF))) (by with_unfolding_all rfl) (by with_unfolding_all rfl) (by with_unfolding_all rfl) (natsC_same (elemL_length _) (elemL_length _)) (sizeN Try.sz5e _ (elemL_length _)) (natsC_one _) E7.out ?_); intro w8 E8; simp only [List.set_cons_zero] at E8)
          | (with_reducible refine wpE_load (o := ⟨some 17, _, _, _, _, _⟩) rfl 45 (.tmp 2) rfl 2 g1 45 (natsC (elemL v)) _ (by with_unfolding_all rfl) (by with_unfolding_all rfl) Try.underlying45 rfl (sizeN Try.sz5e _ (elemL_length _)) E8 ?_)
          | (with_reducible refine wpE_load (o := ⟨some 18, _, _, _, _, _⟩) rfl 45 (.tmp 2) rfl 2 g1 45 (natsC (elemL v)) _ (by with_unfolding_all rfl) (by with_unfolding_all rfl) Try.underlying45 rfl (sizeN Try.sz5e _ (elemL_length _)) E8 ?_)
          | ((with_reducible refine (HM.out v v HV.out HV.out _).mono ?_); rintro e w9 ⟨rfl, b9⟩; have E9 := Lib.hid (E8.call b9); clear b9 E8)
          | ((with_reducible refine wpE_store (o := ⟨none, _, _, _, _, _⟩) rfl 45 (.tmp 2) (.tmp 19) rfl 2 g1 45 (natsC (elemL v)) (natsC (elemL (v * v % pF))) (by with_unfolding_all rfl) (by with_unfolding_all rfl) (by with_unfolding_all rfl) (natsC_same (elemL_length _) (elemL_length _)) (sizeN Try.sz5e _ (elemL_length _)) (natsC_one _) E9.out ?_); intro w10 E10; simp only [List.set_cons_zero, List.set_cons_succ] at E10))
        have HE := Lib.hid E10
        clear E10
        go_roundw
        case rel => exact ⟨r / 2, u * v % pF, v * v % pF, by omega, by go_num, modF_lt _, modF_lt _, HN.out, HE.out⟩
        case measure => simp [intOf]; omega
      · have hod : ((r : Int) % 2) = 0 := by omega
        have hn1 : u * powF (v * v % pF) (r / 2) % pF = powF a n := by
          rw [← HVAL.out]
          have e2 : powF (v * v % pF) (r / 2) = powF v (2 * (r / 2)) := by
            rw [← powF_pow]
            unfold powF
            rw [Nat.pow_two]
          rw [e2, show 2 * (r / 2) = r by omega]
        have HN := Lib.hid hn1
        clear hn1
        go_wp2_with (first
          | (with_reducible refine wpE_load (o := ⟨some 17, _, _, _, _, _⟩) rfl 45 (.tmp 2) rfl 2 g1 45 (natsC (elemL v)) _ (by with_unfolding_all rfl) (by with_unfolding_all rfl) Try.underlying45 rfl (sizeN Try.sz5e _ (elemL_length _)) E.out ?_)
          | (with_reducible refine wpE_load (o := ⟨some 18, _, _, _, _, _⟩) rfl 45 (.tmp 2) rfl 2 g1 45 (natsC (elemL v)) _ (by with_unfolding_all rfl) (by with_unfolding_all rfl) Try.underlying45 rfl (sizeN Try.sz5e _ (elemL_length _)) E.out ?_)
          | ((with_reducible refine (HM.out v v HV.out HV.out _).mono ?_); rintro e w9 ⟨rfl, b9⟩; have E9 := Lib.hid (E.out.call b9); clear b9)
          | ((with_reducible refine wpE_store (o := ⟨none, _, _, _, _, _⟩) rfl 45 (.tmp 2) (.tmp 19) rfl 2 g1 45 (natsC (elemL v)) (natsC (elemL (v * v % pF))) (by with_unfolding_all rfl) (by with_unfolding_all rfl) (by with_unfolding_all rfl) (natsC_same (elemL_length _) (elemL_length _)) (sizeN Try.sz5e _ (elemL_length _)) (natsC_one _) E9.out ?_); intro w10 E10; simp only [List.set_cons_zero, List.set_cons_succ] at E10))
        have HE := Lib.hid E10
        clear E10
        go_roundw
        case rel => exact ⟨r / 2, u, v * v % pF, by omega, by go_num, HU.out, modF_lt _, HN.out, HE.out⟩
        case measure => simp [intOf]; omega
    · have hr0 : r = 0 := by omega
      have hval := HVAL.out
      rw [hr0, show powF v 0 = 1 by unfold powF; rw [Nat.pow_zero]; exact HP.out _ H1.out, Nat.mul_one, HP.out _ HU.out] at hval
      have HV2 := Lib.hid hval
      clear hval hr0
      go_wp2_with (first
        | (with_reducible refine wpE_load (o := ⟨some 20, _, _, _, _, _⟩) rfl 45 (.tmp 5) rfl 0 g3 45 (natsC (elemL u)) _ (by with_unfolding_all rfl) (by with_unfolding_all rfl) Try.underlying45 rfl (sizeN Try.sz5e _ (elemL_length _)) E.out ?_)
        | ((with_reducible refine wpE_store (o := ⟨none, _, _, _, _, _⟩) rfl 45 (.tmp 4) (.tmp 20) rfl 1 g2 45 (natsC (zero5)) (natsC (elemL u)) (by with_unfolding_all rfl) (by with_unfolding_all rfl) (by with_unfolding_all rfl) (natsC_same zero5_length (elemL_length _)) (sizeN Try.sz5e _ (elemL_length _)) (natsC_one _) E.out ?_); intro w9 E9; simp only [List.set_cons_zero, List.set_cons_succ] at E9))
      rw [← HV2.out]
      exact bodyPost_ret (results_cell_row rfl _ _ g2 45 (natsC (elemL u)) (0, 0) _ rfl (E9.row 1 rfl) Try.underlying45 rfl (sizeN Try.sz5e _ (elemL_length _))) rfl (E9.ret _)
end Go.Proofs.Ytpgjcmccfpjmoaa
