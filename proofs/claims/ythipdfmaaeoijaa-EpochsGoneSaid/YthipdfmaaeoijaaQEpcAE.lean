/-
  Texts that belong together, merged: FieldH, FieldI, OctMath, WordMath, B, K, Words, C, D. Conditions: as each theorem names them.
-/
import Derived.Test.YthipdfmaaeoijaaQEpcAD
import Derived.IntWalk
import Derived.Laws.BitsAllLaws
import Derived.Test.YthipdfmaaeoijaaChecked
import Derived.Test.YthipdfmaaeoijaaQEpcAA
import Derived.WalkKit
import Derived.LoopTactic
import Derived.RegionTactic
import Derived.Deep.QuietTactic
import Derived.BigQuiet
import Derived.Outline
import Derived.WalkSpells
import Derived.WalkLawsBesides
import Derived.StillTailTactics
section
namespace Go.Proofs.Ythipdfmaaeoijaa
open Go.RowKit
set_option linter.unusedVariables false
set_option maxRecDepth 20000

theorem modF_lt (a : Nat) : a % pF < pF := Nat.mod_lt _ (by decide)
/-- A power modulo p. -/
def powF (a n : Nat) : Nat := a ^ n % pF
theorem powF_lt (a n : Nat) : powF a n < pF := modF_lt _
theorem powF_one (a : Nat) (h : a < pF) : powF a 1 = a := by unfold powF; rw [Nat.pow_one, Nat.mod_eq_of_lt h]
theorem powF_mul (a m n : Nat) : powF a m * powF a n % pF = powF a (m + n) := by unfold powF; rw [← Nat.mul_mod, Nat.pow_add]
theorem powF_pow (a m n : Nat) : powF (powF a m) n = powF a (m * n) := by unfold powF; rw [← Nat.pow_mod, Nat.pow_mul]

set_option maxHeartbeats 1000000 in
theorem squared_any (a : Nat) (ha : a < pF) (n : Nat) (hn : n ≤ 1000) (w : World) :
    Calls Try.prog 61 #[.agg (natsC (elemL a)), .int .i64 (n : Int)] w (RetV w (.agg (natsC (elemL (powF a (2 ^ n)))))) := by
  have HM : Hid (∀ k w, Calls Try.prog 37 #[.agg (natsC (elemL (powF a (2 ^ k)))), .agg (natsC (elemL (powF a (2 ^ k))))] w (RetV w (.agg (natsC (elemL (powF a (2 ^ (k + 1)))))))) := fun k w => by
    have := Mul_any (powF a (2 ^ k)) (powF a (2 ^ k)) (powF_lt _ _) (powF_lt _ _) w
    rwa [powF_mul, show 2 ^ k + 2 ^ k = 2 ^ (k + 1) by rw [Nat.pow_succ]; omega] at this
  have H0 : Hid (elemL (powF a (2 ^ 0)) = elemL a) := by show _ = _; rw [Nat.pow_zero, powF_one a ha]
  have E0 := Env.start w
  go_enter Try.func61, Try.ntmps61
  go_wp2_with (first
    | ((with_reducible refine wpE_box (o := ⟨some 2, _, _, _, _, _⟩) rfl 59 (.tmp 0) rfl (natsC (elemL a)) (by with_unfolding_all rfl) E0 ?_); intro g1 w1 E1)
    | ((with_reducible refine wpE_alloc (o := ⟨some 4, _, _, _, _, _⟩) rfl 59 rfl (natsC zero5) Try.zero5e E1 ?_); intro g2 w2 E2))
  rw [← H0.out] at E2
  have E3 := Lib.hid E2
  clear E0 E1 E2
  go_loopw [6] (fun i wr => ∃ k : Nat, k ≤ n ∧ i = .int .i64 k ∧ Env w [(g2, 59, natsC zero5), (g1, 59, natsC (elemL (powF a (2 ^ k))))] wr) (fun i _ => n - (intOf i).toNat)
  case atStart => exact ⟨0, by omega, rfl, E3.out⟩
  case round =>
    clear E3
    obtain ⟨k, hk, rfl, hE⟩ := hrel
    have E := Lib.hid hE
    clear hE
    by_cases hlt : k < n
    · go_wp2_with (first
        | (with_reducible refine wpE_load (o := ⟨some 8, _, _, _, _, _⟩) rfl 59 (.tmp 2) rfl 1 g1 59 (natsC (elemL (powF a (2 ^ k)))) _ (by with_unfolding_all rfl) (by with_unfolding_all rfl) Try.underlying59 rfl (sizeN Try.sz5e _ (elemL_length _)) E.out ?_)
        | (with_reducible refine wpE_load (o := ⟨some 9, _, _, _, _, _⟩) rfl 59 (.tmp 2) rfl 1 g1 59 (natsC (elemL (powF a (2 ^ k)))) _ (by with_unfolding_all rfl) (by with_unfolding_all rfl) Try.underlying59 rfl (sizeN Try.sz5e _ (elemL_length _)) E.out ?_)
        | ((with_reducible refine (HM.out k _).mono ?_); rintro e w6 ⟨rfl, b6⟩; have E7 := Lib.hid (E.out.call b6); clear b6)
        | ((with_reducible refine wpE_store (o := ⟨none, _, _, _, _, _⟩) rfl 59 (.tmp 2) (.tmp 10) rfl 1 g1 59 (natsC (elemL (powF a (2 ^ k)))) (natsC (elemL (powF a (2 ^ (k + 1))))) (by with_unfolding_all rfl) (by with_unfolding_all rfl) (by with_unfolding_all rfl) (natsC_same (elemL_length _) (elemL_length _)) (sizeN Try.sz5e _ (elemL_length _)) (natsC_one _) E7.out ?_); intro w9 E9; have HE9 := Lib.hid E9; clear E9 E7))
      go_roundw
      case rel => exact ⟨k + 1, by omega, by go_num, HE9.out⟩
      case measure => simp [intOf]; omega
    · have hkn : k = n := by omega
      have E5 := E.out
      rw [hkn] at E5
      have E6 := Lib.hid E5
      clear E5 E hkn
      go_wp2_with (first
        | (with_reducible refine wpE_load (o := ⟨some 12, _, _, _, _, _⟩) rfl 59 (.tmp 2) rfl 1 g1 59 (natsC (elemL (powF a (2 ^ n)))) _ (by with_unfolding_all rfl) (by with_unfolding_all rfl) Try.underlying59 rfl (sizeN Try.sz5e _ (elemL_length _)) E6.out ?_)
        | ((with_reducible refine wpE_store (o := ⟨none, _, _, _, _, _⟩) rfl 59 (.tmp 4) (.tmp 12) rfl 0 g2 59 (natsC zero5) (natsC (elemL (powF a (2 ^ n)))) (by with_unfolding_all rfl) (by with_unfolding_all rfl) (by with_unfolding_all rfl) (natsC_same zero5_length (elemL_length _)) (sizeN Try.sz5e _ (elemL_length _)) (natsC_one _) E6.out ?_); intro w9 E9))
      exact bodyPost_ret (results_cell_row rfl _ _ g2 59 (natsC (elemL (powF a (2 ^ n)))) (0, 0) _ rfl (E9.row 0 rfl) Try.underlying59 rfl (sizeN Try.sz5e _ (elemL_length _))) rfl (E9.ret _)

/-- The power that ones makes: bits one, so far apart, once more than t. -/
def onesE (s : Nat) : Nat → Nat
  | 0 => 1
  | t + 1 => onesE s t * 2 ^ s + 1

set_option maxHeartbeats 1000000 in
theorem ones_any (a : Nat) (ha : a < pF) (s n : Nat) (hs : s ≤ 1000) (hn : n ≤ 1000) (w : World) :
    Calls Try.prog 60 #[.agg (natsC (elemL a)), .int .i64 (s : Int), .int .i64 ((n + 1 : Nat) : Int)] w (RetV w (.agg (natsC (elemL (powF a (onesE s n)))))) := by
  have HS : Hid (∀ k w, Calls Try.prog 61 #[.agg (natsC (elemL (powF a (onesE s k)))), .int .i64 (s : Int)] w (RetV w (.agg (natsC (elemL (powF a (onesE s k * 2 ^ s))))))) := fun k w => by
    have := squared_any (powF a (onesE s k)) (powF_lt _ _) s hs w
    rwa [powF_pow] at this
  have HM : Hid (∀ k w, Calls Try.prog 37 #[.agg (natsC (elemL (powF a (onesE s k * 2 ^ s)))), .agg (natsC (elemL a))] w (RetV w (.agg (natsC (elemL (powF a (onesE s (k + 1)))))))) := fun k w => by
    have := Mul_any (powF a (onesE s k * 2 ^ s)) (powF a 1) (powF_lt _ _) (powF_lt _ _) w
    rwa [powF_mul, powF_one a ha] at this
  have H0 : Hid (elemL a = elemL (powF a (onesE s 0))) := by show _ = _; rw [onesE, powF_one a ha]
  have E0 := Env.start w
  go_enter Try.func60, Try.ntmps60
  go_wp2_with (first
    | ((with_reducible refine wpE_box (o := ⟨some 3, _, _, _, _, _⟩) rfl 59 (.tmp 0) rfl (natsC (elemL a)) (by with_unfolding_all rfl) E0 ?_); intro g1 w1 E1)
    | ((with_reducible refine wpE_alloc (o := ⟨some 6, _, _, _, _, _⟩) rfl 59 rfl (natsC zero5) Try.zero5e E1 ?_); intro g2 w2 E2)
    | (with_reducible refine wpE_load (o := ⟨some 8, _, _, _, _, _⟩) rfl 59 (.tmp 3) rfl 1 g1 59 (natsC (elemL a)) _ (by with_unfolding_all rfl) (by with_unfolding_all rfl) Try.underlying59 rfl (sizeN Try.sz5e _ (elemL_length _)) E2 ?_)
    | ((with_reducible refine wpE_alloc (o := ⟨some 7, _, _, _, _, _⟩) rfl 59 rfl (natsC zero5) Try.zero5e E2 ?_); intro g3 w3 E3)
    | ((with_reducible refine wpE_store (o := ⟨none, _, _, _, _, _⟩) rfl 59 (.tmp 7) (.tmp 8) rfl 0 g3 59 (natsC zero5) (natsC (elemL a)) (by with_unfolding_all rfl) (by with_unfolding_all rfl) (by with_unfolding_all rfl) (natsC_same zero5_length (elemL_length _)) (sizeN Try.sz5e _ (elemL_length _)) (natsC_one _) E3 ?_); intro w4 E4))
  simp only [List.set_cons_zero] at E4
  have E5 : Hid (Env w [(g3, 59, natsC (elemL (powF a (onesE s 0)))), (g2, 59, natsC zero5), (g1, 59, natsC (elemL a))] w4) := by rw [← H0.out]; exact E4
  clear E0 E1 E2 E3 E4
  go_loopw [11] (fun i wr => ∃ k : Nat, k ≤ n ∧ i = .int .i64 k ∧ Env w [(g3, 59, natsC (elemL (powF a (onesE s k)))), (g2, 59, natsC zero5), (g1, 59, natsC (elemL a))] wr) (fun i _ => n - (intOf i).toNat)
  case atStart => exact ⟨0, by omega, rfl, E5.out⟩
  case round =>
    clear E5
    obtain ⟨k, hk, rfl, hE⟩ := hrel
    have E := Lib.hid hE
    clear hE
    by_cases hlt : k < n
    · go_wp2_with fail
      refine region_class_tail 5 _ E.out.drew (by kernel_rfl) (by kernel_rfl) ?_
      simp only [List.take_succ_cons, List.take_zero, List.drop_succ_cons, List.drop_zero]
      refine qE_load (by rfl) _ (.tmp 7) rfl 0 g3 59 (natsC (elemL (powF a (onesE s k)))) _ rfl rfl Try.underlying59 rfl (sizeN Try.sz5e _ (elemL_length _)) ?_
      simp only [Act.put, List.setIfInBounds_toArray, List.set_cons_zero, List.set_cons_succ]
      refine q_run (by rfl) (v := .int .i64 (s : Int)) (fun W _ => by go_simp) ?_
      simp only [Act.put, List.setIfInBounds_toArray, List.set_cons_zero, List.set_cons_succ]
      refine q_call (by rfl) 61 _ (fun W => by go_simp) (fun W hW => hW.calls (HS.out k W)) ?_
      simp only [Act.put, List.setIfInBounds_toArray, List.set_cons_zero, List.set_cons_succ]
      refine qE_load (by rfl) _ (.tmp 3) rfl 2 g1 59 (natsC (elemL a)) _ rfl rfl Try.underlying59 rfl (sizeN Try.sz5e _ (elemL_length _)) ?_
      simp only [Act.put, List.setIfInBounds_toArray, List.set_cons_zero, List.set_cons_succ]
      refine q_call (by rfl) 37 _ (fun W => by go_simp) (fun W hW => hW.calls (HM.out k W)) ?_
      simp only [Act.put, List.setIfInBounds_toArray, List.set_cons_zero, List.set_cons_succ]
      refine wpQuiet_nil ?_
      intro w6 E6
      go_wp2_with (((with_reducible refine wpE_store (o := ⟨none, _, _, _, _, _⟩) rfl 59 (.tmp 7) (.tmp 17) rfl 0 g3 59 (natsC (elemL (powF a (onesE s k)))) (natsC (elemL (powF a (onesE s (k + 1))))) (by with_unfolding_all rfl) (by with_unfolding_all rfl) (by with_unfolding_all rfl) (natsC_same (elemL_length _) (elemL_length _)) (sizeN Try.sz5e _ (elemL_length _)) (natsC_one _) E6 ?_); intro w7 E7); have HE9 := Lib.hid E7; clear E7 E6)
      go_roundw
      case rel => exact ⟨k + 1, by omega, by go_num, HE9.out⟩
      case measure => simp [intOf]; omega
    · have hkn : k = n := by omega
      have E5 := E.out
      rw [hkn] at E5
      have E6 := Lib.hid E5
      clear E5 E hkn
      go_wp2_with (first
        | (with_reducible refine wpE_load (o := ⟨some 19, _, _, _, _, _⟩) rfl 59 (.tmp 7) rfl 0 g3 59 (natsC (elemL (powF a (onesE s n)))) _ (by with_unfolding_all rfl) (by with_unfolding_all rfl) Try.underlying59 rfl (sizeN Try.sz5e _ (elemL_length _)) E6.out ?_)
        | ((with_reducible refine wpE_store (o := ⟨none, _, _, _, _, _⟩) rfl 59 (.tmp 6) (.tmp 19) rfl 1 g2 59 (natsC zero5) (natsC (elemL (powF a (onesE s n)))) (by with_unfolding_all rfl) (by with_unfolding_all rfl) (by with_unfolding_all rfl) (natsC_same zero5_length (elemL_length _)) (sizeN Try.sz5e _ (elemL_length _)) (natsC_one _) E6.out ?_); intro w9 E9))
      exact bodyPost_ret (results_cell_row rfl _ _ g2 59 (natsC (elemL (powF a (onesE s n)))) (0, 0) _ rfl (E9.row 1 rfl) Try.underlying59 rfl (sizeN Try.sz5e _ (elemL_length _))) rfl (E9.ret _)

/-- Whether the last bit is set. -/
theorem powF_odd (a n : Nat) (h : n % 2 = 1) (q : Nat) : powF a q * powF (powF a q) (n - 1) % pF = powF (powF a q) n := by
  have := powF_mul (powF a q) 1 (n - 1)
  rw [powF_one _ (powF_lt _ _)] at this
  rw [this, show 1 + (n - 1) = n by omega]

set_option maxHeartbeats 2000000 in
theorem Power_any (a : Nat) (ha : a < pF) (n : Nat) (hn : n < 18446744073709551616) (w : World) :
    Calls Try.prog 62 #[.agg (natsC (elemL a)), .int .u64 (n : Int)] w (RetV w (.agg (natsC (elemL (powF a n))))) := by
  have HO : Hid (∀ w, Calls Try.prog 33 #[.int .u64 1] w (RetV w (.agg (natsC (elemL 1))))) := fun w => Small_any 1 (by omega) w
  have HM : Hid (∀ u v, u < pF → v < pF → ∀ w, Calls Try.prog 37 #[.agg (natsC (elemL u)), .agg (natsC (elemL v))] w (RetV w (.agg (natsC (elemL (u * v % pF)))))) := fun u v hu hv w => Mul_any u v hu hv w
  have HP : Hid (∀ u, u < pF → u % pF = u) := fun u hu => Nat.mod_eq_of_lt hu
  have HA := Lib.hid ha
  have H1 : Hid (1 < pF) := by show _ < _; decide
  clear ha
  have E0 := Env.start w
  go_enter Try.func62, Try.ntmps62
  go_wp2_with (first
    | ((with_reducible refine wpE_box (o := ⟨some 2, _, _, _, _, _⟩) rfl 59 (.tmp 0) rfl (natsC (elemL a)) (by with_unfolding_all rfl) E0 ?_); intro g1 w1 E1)
    | ((with_reducible refine wpE_alloc (o := ⟨some 4, _, _, _, _, _⟩) rfl 59 rfl (natsC (zero5)) Try.zero5e E1 ?_); intro g2 w2 E2)
    | ((with_reducible refine (HO.out _).mono ?_); rintro e w3 ⟨rfl, b_w3⟩; have E3 := E2.call b_w3; clear b_w3)
    | ((with_reducible refine wpE_alloc (o := ⟨some 5, _, _, _, _, _⟩) rfl 59 rfl (natsC (zero5)) Try.zero5e E3 ?_); intro g3 w4 E4)
    | ((with_reducible refine wpE_store (o := ⟨none, _, _, _, _, _⟩) rfl 59 (.tmp 5) (.tmp 6) rfl 0 g3 59 (natsC (zero5)) (natsC (elemL 1)) (by with_unfolding_all rfl) (by with_unfolding_all rfl) (by with_unfolding_all rfl) (natsC_same zero5_length (elemL_length _)) (sizeN Try.sz5e _ (elemL_length _)) (natsC_one _) E4 ?_); intro w5 E5; simp only [List.set_cons_zero] at E5))
  have E6 := Lib.hid E5
  clear E0 E1 E2 E3 E4 E5
  try simp only [Act.put, List.setIfInBounds_toArray, List.set_cons_zero, List.set_cons_succ]
  go_loopw [1] (fun m wr => ∃ r u v : Nat, r ≤ n ∧ m = .int .u64 (r : Int) ∧ u < pF ∧ v < pF ∧ u * powF v r % pF = powF a n ∧ Env w [(g3, 59, natsC (elemL u)), (g2, 59, natsC zero5), (g1, 59, natsC (elemL v))] wr) (fun m _ => (intOf m).toNat)
  case atStart => exact ⟨n, 1, a, Nat.le_refl _, rfl, H1.out, HA.out, by rw [Nat.one_mul, HP.out _ (powF_lt _ _)], E6.out⟩
  case round =>
    clear E6
    obtain ⟨r, u, v, hr, rfl, hu, hv, hval, hE⟩ := hrel
    have E := Lib.hid hE
    have HU := Lib.hid hu
    have HV := Lib.hid hv
    have HVAL := Lib.hid hval
    clear hE hu hv hval
    by_cases hlt : 0 < r
    · have hr2 : r < 18446744073709551616 := by omega
      by_cases hodd : r % 2 = 1
      · have hod : ((r : Int) % 2) = 1 := by omega
        have hn1 : u * v % pF * powF (v * v % pF) (r / 2) % pF = powF a n := by
          rw [← HVAL.out]
          have e : powF v r = v * powF (v * v % pF) (r / 2) % pF := by
            have e2 : powF (v * v % pF) (r / 2) = powF v (2 * (r / 2)) := by
              rw [← powF_pow]
              unfold powF
              rw [Nat.pow_two]
            have e3 := powF_mul v 1 (2 * (r / 2))
            rw [powF_one v HV.out] at e3
            rw [e2, e3, show 1 + 2 * (r / 2) = r by omega]
          rw [e, Nat.mul_mod_mod, Nat.mod_mul_mod, Nat.mul_assoc]
        have HN := Lib.hid hn1
        clear hn1
        go_wp2_with (first
          | (with_reducible refine wpE_load (o := ⟨some 14, _, _, _, _, _⟩) rfl 59 (.tmp 5) rfl 0 g3 59 (natsC (elemL u)) _ (by with_unfolding_all rfl) (by with_unfolding_all rfl) Try.underlying59 rfl (sizeN Try.sz5e _ (elemL_length _)) E.out ?_)
          | (with_reducible refine wpE_load (o := ⟨some 15, _, _, _, _, _⟩) rfl 59 (.tmp 2) rfl 2 g1 59 (natsC (elemL v)) _ (by with_unfolding_all rfl) (by with_unfolding_all rfl) Try.underlying59 rfl (sizeN Try.sz5e _ (elemL_length _)) E.out ?_)
          | ((with_reducible refine (HM.out u v HU.out HV.out _).mono ?_); rintro e w6 ⟨rfl, b6⟩; have E7 := Lib.hid (E.out.call b6); clear b6)
          | ((with_reducible refine wpE_store (o := ⟨none, _, _, _, _, _⟩) rfl 59 (.tmp 5) (.tmp 16) rfl 0 g3 59 (natsC (elemL u)) (natsC (elemL (u * v % pF))) (by with_unfolding_all rfl) (by with_unfolding_all rfl) (by with_unfolding_all rfl) (natsC_same (elemL_length _) (elemL_length _)) (sizeN Try.sz5e _ (elemL_length _)) (natsC_one _) E7.out ?_); intro w8 E8; simp only [List.set_cons_zero] at E8)
          | (with_reducible refine wpE_load (o := ⟨some 17, _, _, _, _, _⟩) rfl 59 (.tmp 2) rfl 2 g1 59 (natsC (elemL v)) _ (by with_unfolding_all rfl) (by with_unfolding_all rfl) Try.underlying59 rfl (sizeN Try.sz5e _ (elemL_length _)) E8 ?_)
          | (with_reducible refine wpE_load (o := ⟨some 18, _, _, _, _, _⟩) rfl 59 (.tmp 2) rfl 2 g1 59 (natsC (elemL v)) _ (by with_unfolding_all rfl) (by with_unfolding_all rfl) Try.underlying59 rfl (sizeN Try.sz5e _ (elemL_length _)) E8 ?_)
          | ((with_reducible refine (HM.out v v HV.out HV.out _).mono ?_); rintro e w9 ⟨rfl, b9⟩; have E9 := Lib.hid (E8.call b9); clear b9 E8)
          | ((with_reducible refine wpE_store (o := ⟨none, _, _, _, _, _⟩) rfl 59 (.tmp 2) (.tmp 19) rfl 2 g1 59 (natsC (elemL v)) (natsC (elemL (v * v % pF))) (by with_unfolding_all rfl) (by with_unfolding_all rfl) (by with_unfolding_all rfl) (natsC_same (elemL_length _) (elemL_length _)) (sizeN Try.sz5e _ (elemL_length _)) (natsC_one _) E9.out ?_); intro w10 E10; simp only [List.set_cons_zero, List.set_cons_succ] at E10))
        have HE := Lib.hid E10
        clear E10
        go_roundw
        case rel => exact ⟨r / 2, u * v % pF, v * v % pF, by omega, by go_num, modF_lt _, modF_lt _, HN.out, HE.out⟩
        case measure => simp [intOf]; omega
      · have hod : ((r : Int) % 2) = 0 := by omega
        have hn1 : u * powF (v * v % pF) (r / 2) % pF = powF a n := by
          rw [← HVAL.out]
          have e2 : powF (v * v % pF) (r / 2) = powF v (2 * (r / 2)) := by
            rw [← powF_pow]
            unfold powF
            rw [Nat.pow_two]
          rw [e2, show 2 * (r / 2) = r by omega]
        have HN := Lib.hid hn1
        clear hn1
        go_wp2_with (first
          | (with_reducible refine wpE_load (o := ⟨some 17, _, _, _, _, _⟩) rfl 59 (.tmp 2) rfl 2 g1 59 (natsC (elemL v)) _ (by with_unfolding_all rfl) (by with_unfolding_all rfl) Try.underlying59 rfl (sizeN Try.sz5e _ (elemL_length _)) E.out ?_)
          | (with_reducible refine wpE_load (o := ⟨some 18, _, _, _, _, _⟩) rfl 59 (.tmp 2) rfl 2 g1 59 (natsC (elemL v)) _ (by with_unfolding_all rfl) (by with_unfolding_all rfl) Try.underlying59 rfl (sizeN Try.sz5e _ (elemL_length _)) E.out ?_)
          | ((with_reducible refine (HM.out v v HV.out HV.out _).mono ?_); rintro e w9 ⟨rfl, b9⟩; have E9 := Lib.hid (E.out.call b9); clear b9)
          | ((with_reducible refine wpE_store (o := ⟨none, _, _, _, _, _⟩) rfl 59 (.tmp 2) (.tmp 19) rfl 2 g1 59 (natsC (elemL v)) (natsC (elemL (v * v % pF))) (by with_unfolding_all rfl) (by with_unfolding_all rfl) (by with_unfolding_all rfl) (natsC_same (elemL_length _) (elemL_length _)) (sizeN Try.sz5e _ (elemL_length _)) (natsC_one _) E9.out ?_); intro w10 E10; simp only [List.set_cons_zero, List.set_cons_succ] at E10))
        have HE := Lib.hid E10
        clear E10
        go_roundw
        case rel => exact ⟨r / 2, u, v * v % pF, by omega, by go_num, HU.out, modF_lt _, HN.out, HE.out⟩
        case measure => simp [intOf]; omega
    · have hr0 : r = 0 := by omega
      have hval := HVAL.out
      rw [hr0, show powF v 0 = 1 by unfold powF; rw [Nat.pow_zero]; exact HP.out _ H1.out, Nat.mul_one, HP.out _ HU.out] at hval
      have HV2 := Lib.hid hval
      clear hval hr0
      go_wp2_with (first
        | (with_reducible refine wpE_load (o := ⟨some 20, _, _, _, _, _⟩) rfl 59 (.tmp 5) rfl 0 g3 59 (natsC (elemL u)) _ (by with_unfolding_all rfl) (by with_unfolding_all rfl) Try.underlying59 rfl (sizeN Try.sz5e _ (elemL_length _)) E.out ?_)
        | ((with_reducible refine wpE_store (o := ⟨none, _, _, _, _, _⟩) rfl 59 (.tmp 4) (.tmp 20) rfl 1 g2 59 (natsC (zero5)) (natsC (elemL u)) (by with_unfolding_all rfl) (by with_unfolding_all rfl) (by with_unfolding_all rfl) (natsC_same zero5_length (elemL_length _)) (sizeN Try.sz5e _ (elemL_length _)) (natsC_one _) E.out ?_); intro w9 E9; simp only [List.set_cons_zero, List.set_cons_succ] at E9))
      rw [← HV2.out]
      exact bodyPost_ret (results_cell_row rfl _ _ g2 59 (natsC (elemL u)) (0, 0) _ rfl (E9.row 1 rfl) Try.underlying59 rfl (sizeN Try.sz5e _ (elemL_length _))) rfl (E9.ret _)
end Go.Proofs.Ythipdfmaaeoijaa
end
section
namespace Go.Proofs.Ythipdfmaaeoijaa
open Go.RowKit
set_option linter.unusedVariables false
set_option maxRecDepth 20000

def invF (a : Nat) : Nat := powF a (pF - 2)
theorem invF_lt (a : Nat) : invF a < pF := powF_lt _ _
theorem expo1 : onesE 1 4 = 31 := by decide
theorem expo2 : onesE 5 4 = 1082401 := by decide
theorem expo3 : 31 * onesE 5 4 * onesE 25 9 * 2 ^ 5 + 11 = pF - 2 := by decide +kernel

set_option maxHeartbeats 1000000 in
theorem Invert_any (a : Nat) (ha : a < pF) (w : World) :
    Calls Try.prog 38 #[.agg (natsC (elemL a))] w (RetV w (.agg (natsC (elemL (invF a))))) := by
  have H1 : Hid (∀ w, Calls Try.prog 60 #[.agg (natsC (elemL a)), .int .i64 1, .int .i64 5] w (RetV w (.agg (natsC (elemL (powF a (onesE 1 4))))))) := fun w => ones_any a ha 1 4 (by omega) (by omega) w
  have H2 : Hid (∀ w, Calls Try.prog 60 #[.agg (natsC (elemL (powF a (onesE 1 4)))), .int .i64 5, .int .i64 5] w (RetV w (.agg (natsC (elemL (powF a (onesE 1 4 * onesE 5 4))))))) := fun w => by
    have := ones_any (powF a (onesE 1 4)) (powF_lt _ _) 5 4 (by omega) (by omega) w
    rwa [powF_pow] at this
  have H3 : Hid (∀ w, Calls Try.prog 60 #[.agg (natsC (elemL (powF a (onesE 1 4 * onesE 5 4)))), .int .i64 25, .int .i64 10] w (RetV w (.agg (natsC (elemL (powF a (onesE 1 4 * onesE 5 4 * onesE 25 9))))))) := fun w => by
    have := ones_any (powF a (onesE 1 4 * onesE 5 4)) (powF_lt _ _) 25 9 (by omega) (by omega) w
    rwa [powF_pow] at this
  have H4 : Hid (∀ w, Calls Try.prog 61 #[.agg (natsC (elemL (powF a (onesE 1 4 * onesE 5 4 * onesE 25 9)))), .int .i64 5] w (RetV w (.agg (natsC (elemL (powF a (onesE 1 4 * onesE 5 4 * onesE 25 9 * 2 ^ 5))))))) := fun w => by
    have := squared_any (powF a (onesE 1 4 * onesE 5 4 * onesE 25 9)) (powF_lt _ _) 5 (by omega) w
    rwa [powF_pow] at this
  have H5 : Hid (∀ w, Calls Try.prog 62 #[.agg (natsC (elemL a)), .int .u64 11] w (RetV w (.agg (natsC (elemL (powF a 11)))))) := fun w => Power_any a ha 11 (by omega) w
  have H6 : Hid (∀ w, Calls Try.prog 37 #[.agg (natsC (elemL (powF a (onesE 1 4 * onesE 5 4 * onesE 25 9 * 2 ^ 5)))), .agg (natsC (elemL (powF a 11)))] w (RetV w (.agg (natsC (elemL (invF a)))))) := fun w => by
    have := Mul_any (powF a (onesE 1 4 * onesE 5 4 * onesE 25 9 * 2 ^ 5)) (powF a 11) (powF_lt _ _) (powF_lt _ _) w
    rwa [powF_mul, expo1, expo3] at this
  generalize powF a (onesE 1 4 * onesE 5 4 * onesE 25 9 * 2 ^ 5) = x4 at H4 H6
  generalize powF a (onesE 1 4 * onesE 5 4 * onesE 25 9) = x3 at H3 H4
  generalize powF a (onesE 1 4 * onesE 5 4) = x2 at H2 H3
  generalize powF a (onesE 1 4) = x1 at H1 H2
  generalize powF a 11 = x5 at H5 H6
  generalize invF a = x6 at H6 ⊢
  have E0 := Env.start w
  go_enter Try.func38, Try.ntmps38
  go_wp2_with (first
    | ((with_reducible refine wpE_box (o := ⟨some 1, _, _, _, _, _⟩) rfl 59 (.tmp 0) rfl (natsC (elemL a)) (by with_unfolding_all rfl) E0 ?_); intro g1 w1 E1)
    | ((with_reducible refine wpE_alloc (o := ⟨some 2, _, _, _, _, _⟩) rfl 59 rfl (natsC (zero5)) Try.zero5e E1 ?_); intro g2 w2 E2)
    | (with_reducible refine wpE_load (o := ⟨some 4, _, _, _, _, _⟩) rfl 59 (.tmp 1) rfl 1 g1 59 (natsC (elemL a)) _ (by with_unfolding_all rfl) (by with_unfolding_all rfl) Try.underlying59 rfl (sizeN Try.sz5e _ (elemL_length _)) E2 ?_)
    | ((with_reducible refine (H1.out _).mono ?_); rintro e w3 ⟨rfl, b_w3⟩; have E3 := E2.call b_w3; clear b_w3)
    | ((with_reducible refine (H2.out _).mono ?_); rintro e w4 ⟨rfl, b_w4⟩; have E4 := E3.call b_w4; clear b_w4)
    | ((with_reducible refine (H3.out _).mono ?_); rintro e w5 ⟨rfl, b_w5⟩; have E5 := E4.call b_w5; clear b_w5)
    | ((with_reducible refine wpE_alloc (o := ⟨some 3, _, _, _, _, _⟩) rfl 59 rfl (natsC (zero5)) Try.zero5e E5 ?_); intro g3 w6 E6)
    | ((with_reducible refine wpE_store (o := ⟨none, _, _, _, _, _⟩) rfl 59 (.tmp 3) (.tmp 7) rfl 0 g3 59 (natsC (zero5)) (natsC (elemL x3)) (by with_unfolding_all rfl) (by with_unfolding_all rfl) (by with_unfolding_all rfl) (natsC_same zero5_length (elemL_length _)) (sizeN Try.sz5e _ (elemL_length _)) (natsC_one _) E6 ?_); intro w7 E7; simp only [List.set_cons_zero] at E7))
  refine region_class_tail 5 _ E7.drew (by kernel_rfl) (by kernel_rfl) ?_
  simp only [List.take_succ_cons, List.take_zero, List.drop_succ_cons, List.drop_zero]
  refine qE_load (by rfl) _ (.tmp 3) rfl 0 g3 59 (natsC (elemL x3)) _ rfl rfl Try.underlying59 rfl (sizeN Try.sz5e _ (elemL_length _)) ?_
  simp only [Act.put, List.setIfInBounds_toArray, List.set_cons_zero, List.set_cons_succ]
  refine q_call (by rfl) 61 _ (fun W => by go_simp) (fun W hW => hW.calls (H4.out W)) ?_
  simp only [Act.put, List.setIfInBounds_toArray, List.set_cons_zero, List.set_cons_succ]
  refine qE_load (by rfl) _ (.tmp 1) rfl 2 g1 59 (natsC (elemL a)) _ rfl rfl Try.underlying59 rfl (sizeN Try.sz5e _ (elemL_length _)) ?_
  simp only [Act.put, List.setIfInBounds_toArray, List.set_cons_zero, List.set_cons_succ]
  refine q_call (by rfl) 62 _ (fun W => by go_simp) (fun W hW => hW.calls (H5.out W)) ?_
  simp only [Act.put, List.setIfInBounds_toArray, List.set_cons_zero, List.set_cons_succ]
  refine q_call (by rfl) 37 _ (fun W => by go_simp) (fun W hW => hW.calls (H6.out W)) ?_
  simp only [Act.put, List.setIfInBounds_toArray, List.set_cons_zero, List.set_cons_succ]
  refine wpQuiet_nil ?_
  intro w8 E8
  go_wp2_with (first
    | ((with_reducible refine wpE_store (o := ⟨none, _, _, _, _, _⟩) rfl 59 (.tmp 2) (.tmp 12) rfl 1 g2 59 (natsC (zero5)) (natsC (elemL x6)) (by with_unfolding_all rfl) (by with_unfolding_all rfl) (by with_unfolding_all rfl) (natsC_same zero5_length (elemL_length _)) (sizeN Try.sz5e _ (elemL_length _)) (natsC_one _) E8 ?_); intro w9 E9; simp only [List.set_cons_zero, List.set_cons_succ] at E9))
  exact bodyPost_ret (results_cell_row rfl _ _ g2 59 (natsC (elemL x6)) (0, 0) _ rfl (E9.row 1 rfl) Try.underlying59 rfl (sizeN Try.sz5e _ (elemL_length _))) rfl (E9.ret _)
end Go.Proofs.Ythipdfmaaeoijaa
end
section
namespace Go.Proofs.Ythipdfmaaeoijaa

/-- The byte at place i of a number. -/
def byteN (n i : Nat) : UInt8 := UInt8.ofNat (n / 256 ^ i)
theorem byteN_toNat (n i : Nat) : (byteN n i).toNat = n / 256 ^ i % 256 := by
  simp [byteN, UInt8.toNat_ofNat']

/-- A number's lowest s bytes, the lowest one first. -/
def lowB (n s : Nat) : List UInt8 := (List.range s).map (byteN n)
theorem lowB_length (n s : Nat) : (lowB n s).length = s := by simp [lowB]
theorem lowB_succ (n s : Nat) : lowB n (s + 1) = lowB n s ++ [byteN n s] := by simp [lowB, List.range_succ]
theorem lowB_zero (n : Nat) : lowB n 0 = [] := rfl
theorem byteN_div (n i : Nat) : byteN (n / 256) i = byteN n (i + 1) := by
  simp [byteN, Nat.div_div_eq_div_mul, Nat.pow_succ, Nat.mul_comm]
theorem lowB_cons (n s : Nat) : lowB n (s + 1) = byteN n 0 :: lowB (n / 256) s := by
  simp only [lowB, List.range_succ_eq_map, List.map_cons, List.map_map]
  congr 1
  apply List.map_congr_left
  intro i _
  exact (byteN_div n i).symm

/-- As the call has it: none, if the size is not 1 to 8. -/
def lowI (n : Nat) (s : Int) : List UInt8 := if 1 ≤ s ∧ s ≤ 8 then lowB n s.toNat else []
def highI (n : Nat) (s : Int) : List UInt8 := (lowI n s).reverse
theorem lowI_in (n s : Nat) (h1 : 1 ≤ s) (h2 : s ≤ 8) : lowI n s = lowB n s := by
  unfold lowI
  rw [if_pos ⟨by omega, by omega⟩, Int.toNat_natCast]
theorem lowI_out (n : Nat) (s : Int) (h : s < 1 ∨ 8 < s) : lowI n s = [] := by
  unfold lowI
  rw [if_neg (by omega)]
theorem lowI_length (n : Nat) (s : Int) : (lowI n s).length ≤ 8 := by
  unfold lowI
  split
  · rw [lowB_length]; omega
  · simp

/-- The number of bytes, the lowest one first. -/
def ofLowB : List UInt8 → Nat
  | [] => 0
  | b :: l => b.toNat + 256 * ofLowB l
/-- The number of bytes, the lowest one last. -/
def ofHighB (l : List UInt8) : Nat := ofLowB l.reverse

theorem ofLowB_lt (l : List UInt8) : ofLowB l < 256 ^ l.length := by
  induction l with
  | nil => simp [ofLowB]
  | cons b l ih =>
    have := b.toNat_lt
    simp only [ofLowB, List.length_cons, Nat.pow_succ]
    omega
theorem ofLowB_append (a b : List UInt8) : ofLowB (a ++ b) = ofLowB a + 256 ^ a.length * ofLowB b := by
  induction a with
  | nil => simp [ofLowB]
  | cons x a ih =>
    simp only [List.cons_append, ofLowB, ih, List.length_cons, Nat.pow_succ]
    rw [Nat.mul_add, ← Nat.mul_assoc, Nat.mul_comm 256 (256 ^ a.length), Nat.add_assoc]
theorem ofHighB_snoc (l : List UInt8) (b : UInt8) : ofHighB (l ++ [b]) = ofHighB l * 256 + b.toNat := by
  simp [ofHighB, ofLowB]
  omega
theorem ofHighB_nil : ofHighB [] = 0 := rfl
theorem ofHighB_lt (l : List UInt8) : ofHighB l < 256 ^ l.length := by
  have := ofLowB_lt l.reverse
  rwa [List.length_reverse] at this
theorem ofLowB_snoc (l : List UInt8) (b : UInt8) : ofLowB (l ++ [b]) = ofLowB l + 256 ^ l.length * b.toNat := by
  simp [ofLowB_append, ofLowB]

theorem ofLowB_lowB (n s : Nat) : ofLowB (lowB n s) = n % 256 ^ s := by
  induction s generalizing n with
  | zero => simp [lowB, ofLowB, Nat.mod_one]
  | succ s ih =>
    rw [lowB_cons, ofLowB, ih, byteN_toNat, Nat.pow_succ, Nat.mul_comm (256 ^ s), Nat.mod_mul]
    simp

theorem pow256_le (k : Nat) (h : k ≤ 8) : 256 ^ k ≤ 18446744073709551616 := by
  have : (256 : Nat) ^ k ≤ 256 ^ 8 := Nat.pow_le_pow_right (by omega) h
  simpa using this
theorem ofLowB_u64 (l : List UInt8) (h : l.length ≤ 8) : ofLowB l < 18446744073709551616 :=
  Nat.lt_of_lt_of_le (ofLowB_lt l) (pow256_le _ h)
theorem ofHighB_u64 (l : List UInt8) (h : l.length ≤ 8) : ofHighB l < 18446744073709551616 :=
  Nat.lt_of_lt_of_le (ofHighB_lt l) (pow256_le _ h)

/-- Bytes mixed, as many as the shorter list has. -/
def xorB (a b : List UInt8) : List UInt8 := List.zipWith (· ^^^ ·) a b
theorem xorB_length (a b : List UInt8) : (xorB a b).length = min a.length b.length := by simp [xorB]
theorem xorB_get (a b : List UInt8) (k : Nat) (h : k < (xorB a b).length) (ha : k < a.length) (hb : k < b.length) : (xorB a b)[k] = a[k] ^^^ b[k] := by
  simp [xorB]

/-- The first k of l, and zeros behind them. -/
def partly (l : List UInt8) (k : Nat) : List UInt8 := l.take k ++ List.replicate (l.length - k) 0
theorem partly_length (l : List UInt8) (k : Nat) (h : k ≤ l.length) : (partly l k).length = l.length := by simp [partly]; omega
theorem partly_zero (l : List UInt8) : partly l 0 = List.replicate l.length 0 := by simp [partly]
theorem partly_all (l : List UInt8) : partly l l.length = l := by simp [partly]
theorem partly_step (l : List UInt8) (k : Nat) (h : k < l.length) : (partly l k).set k l[k] = partly l (k + 1) := by
  unfold partly
  rw [List.set_append_right _ _ (by simp; omega), List.take_succ_eq_append_getElem h, List.append_assoc]
  congr 1
  have e1 : k - (l.take k).length = 0 := by simp; omega
  have e2 : l.length - k = (l.length - (k + 1)) + 1 := by omega
  rw [e1, e2, List.replicate_succ]
  simp

/-- Zeros, and behind them the last k of l. -/
def partlyR (l : List UInt8) (k : Nat) : List UInt8 := List.replicate (l.length - k) 0 ++ l.drop (l.length - k)
theorem partlyR_zero (l : List UInt8) : partlyR l 0 = List.replicate l.length 0 := by simp [partlyR]
theorem partlyR_all (l : List UInt8) : partlyR l l.length = l := by simp [partlyR]
theorem partlyR_step (l : List UInt8) (k : Nat) (h : k < l.length) : (partlyR l k).set (l.length - 1 - k) (l[l.length - 1 - k]'(by omega)) = partlyR l (k + 1) := by
  unfold partlyR
  have e : l.length - k = (l.length - (k + 1)) + 1 := by omega
  rw [e, List.replicate_succ', List.append_assoc, List.set_append_right _ _ (by simp; omega)]
  congr 1
  have e1 : l.length - 1 - k - (List.replicate (l.length - (k + 1)) (0 : UInt8)).length = 0 := by simp; omega
  rw [e1]
  have e2 : l.length - (k + 1) = l.length - 1 - k := by omega
  rw [List.drop_eq_getElem_cons (i := l.length - (k + 1)) (by omega)]
  simp [e2]
end Go.Proofs.Ythipdfmaaeoijaa
end
section
namespace Go.Proofs.Ythipdfmaaeoijaa

/-- A word turned right by n (1 to 31). -/
def rotr (x : UInt32) (n : Nat) : UInt32 := UInt32.ofNat (x.toNat * 2 ^ (32 - n) % 4294967296 ||| x.toNat / 2 ^ n)
/-- A word moved right by n. -/
def movr (x : UInt32) (n : Nat) : UInt32 := UInt32.ofNat (x.toNat / 2 ^ n)

theorem or_lt32 {a b : Nat} (ha : a < 4294967296) (hb : b < 4294967296) : a ||| b < 4294967296 := Nat.or_lt_two_pow (n := 32) ha hb
theorem div_lt32 (x : UInt32) (n : Nat) : x.toNat / 2 ^ n < 4294967296 := Nat.lt_of_le_of_lt (Nat.div_le_self _ _) x.toNat_lt
theorem rotr_toNat (x : UInt32) (n : Nat) : (rotr x n).toNat = (x.toNat * 2 ^ (32 - n) % 4294967296 ||| x.toNat / 2 ^ n) := by
  unfold rotr
  rw [UInt32.toNat_ofNat_of_lt']
  exact or_lt32 (Nat.mod_lt _ (by omega)) (div_lt32 x n)
theorem movr_toNat (x : UInt32) (n : Nat) : (movr x n).toNat = x.toNat / 2 ^ n := by
  unfold movr
  rw [UInt32.toNat_ofNat_of_lt']
  exact div_lt32 x n

theorem add32 (a b : UInt32) : IntKind.u32.wrap ((a.toNat : Int) + (b.toNat : Int)) = ((a + b).toNat : Int) := by
  rw [IntKind.wrap_u32, UInt32.toNat_add]
  omega
theorem xor32 (a b : UInt32) : bits .xor .u32 (a.toNat : Int) (b.toNat : Int) = ((a ^^^ b).toNat : Int) := by
  rw [u32_xor_nat _ _ a.toNat_lt b.toNat_lt, UInt32.toNat_xor]
theorem and32 (a b : UInt32) : bits .and .u32 (a.toNat : Int) (b.toNat : Int) = ((a &&& b).toNat : Int) := by
  rw [u32_and_nat _ _ a.toNat_lt b.toNat_lt, UInt32.toNat_and]
theorem or32 (a b : UInt32) : bits .or .u32 (a.toNat : Int) (b.toNat : Int) = ((a ||| b).toNat : Int) := by
  rw [u32_or_nat _ _ a.toNat_lt b.toNat_lt, UInt32.toNat_or]

/-- A word turned left by n (1 to 31). -/
def rotl (x : UInt32) (n : Nat) : UInt32 := UInt32.ofNat (x.toNat * 2 ^ n % 4294967296 ||| x.toNat / 2 ^ (32 - n))
theorem rotl_toNat (x : UInt32) (n : Nat) : (rotl x n).toNat = (x.toNat * 2 ^ n % 4294967296 ||| x.toNat / 2 ^ (32 - n)) := by
  unfold rotl
  rw [UInt32.toNat_ofNat_of_lt']
  exact or_lt32 (Nat.mod_lt _ (by omega)) (div_lt32 x (32 - n))

/-- Words, the lowest byte of each first. -/
def wordLow (l : List UInt8) (i : Nat) : UInt32 := UInt32.ofNat (ofLowB ((l.drop (4 * i)).take 4))
def bytesLow (l : List UInt32) : List UInt8 := l.flatMap fun x => lowB x.toNat 4
theorem bytesLow_length (l : List UInt32) : (bytesLow l).length = 4 * l.length := by
  induction l with
  | nil => rfl
  | cons x l ih => simp only [bytesLow, List.flatMap_cons, List.length_append, lowB_length, List.length_cons] at *; omega
end Go.Proofs.Ythipdfmaaeoijaa
end
section
namespace Go.Proofs.Ythipdfmaaeoijaa
open Go.RowKit
set_option linter.unusedVariables false

theorem fits_yes (w : World) (n : Int) (h1 : 1 ≤ n) (h2 : n ≤ 8) :
    Calls Try.prog 63 #[.int .i64 n] w fun e w' => e = .returned (.bool true) ∧ w = w' := by
  go_enter Try.func63, Try.ntmps63
  go_wp2
  go_ret
  exact ⟨rfl, rfl⟩

theorem fits_no (w : World) (n : Int) (h : n < 1 ∨ 8 < n) :
    Calls Try.prog 63 #[.int .i64 n] w fun e w' => e = .returned (.bool false) ∧ w = w' := by
  rcases h with h | h
  · have h1 : decide ((1 : Int) ≤ n) = false := by simp; omega
    go_enter Try.func63, Try.ntmps63
    go_wp2
    go_ret
    exact ⟨rfl, rfl⟩
  · have h0 : (1 : Int) ≤ n := by omega
    have h1 : decide (n ≤ (8 : Int)) = false := by simp; omega
    go_enter Try.func63, Try.ntmps63
    go_wp2
    go_ret
    exact ⟨rfl, rfl⟩

theorem byteN_int (n i : Nat) : (n : Int) / 2 ^ (8 * i) % 256 = ((byteN n i).toNat : Int) := by
  have h : (2 : Int) ^ (8 * i) = ((256 ^ i : Nat) : Int) := by
    rw [show (256 : Nat) = 2 ^ 8 from rfl, ← Nat.pow_mul]
    simp
  rw [byteN_toNat, h]
  omega

theorem byteAt_any (w : World) (n i : Nat) (hn : n < 18446744073709551616) (hi : i ≤ 7) :
    Calls Try.prog 64 #[.int .u64 (n : Int), .int .i64 (i : Int)] w fun e w' => e = .returned (.int .u8 ((byteN n i).toNat : Int)) ∧ w = w' := by
  go_enter Try.func64, Try.ntmps64
  go_wp2
  go_ret
  exact ⟨ret_int (byteN_int n i), rfl⟩

theorem at_in (w : World) (va : Value) (a : List UInt8) (ha : Bs w va a) (i : Nat) (hi : i < a.length) :
    Calls Try.prog 29 #[va, .int .i64 (i : Int)] w fun e w' => e = .returned (.int .u8 (a[i].toNat : Int)) ∧ w = w' := by
  obtain ⟨A, ca, rfl, ha1, ha2, ha3⟩ := ha
  unfold maxLen at ha2
  obtain ⟨b0, o0, rfl, hca⟩ := ha3 (by omega)
  have h0 := hca i hi
  clear hca ha3
  go_enter Try.func29, Try.ntmps29
  go_wp2
  go_ret
  exact ⟨rfl, rfl⟩

theorem at_out (w : World) (va : Value) (a : List UInt8) (ha : Bs w va a) (i : Nat) (hi : a.length ≤ i) (hm : i ≤ maxLen) :
    Calls Try.prog 29 #[va, .int .i64 (i : Int)] w fun e w' => e = .returned (.int .u8 0) ∧ w = w' := by
  obtain ⟨A, ca, rfl, ha1, ha2, ha3⟩ := ha
  unfold maxLen at ha2 hm
  clear ha3
  go_enter Try.func29, Try.ntmps29
  go_wp2
  go_ret
  exact ⟨rfl, rfl⟩

theorem Try.infoB : (Try.prog.info? 5).map (fun i => (i.zero, i.size, i.bytes)) = some (some (.int .u8 0), 1, 1) := by kernel_rfl

set_option maxHeartbeats 400000 in
theorem Low_in (w : World) (n s : Nat) (hn : n < 18446744073709551616) (hs1 : 1 ≤ s) (hs2 : s ≤ 8) :
    Calls Try.prog 40 #[.int .u64 (n : Int), .int .i64 (s : Int)] w (RetBs w (lowB n s)) := by
  obtain ⟨i0, hi, hz0, hz1, hz2⟩ := info_parts Try.infoB
  have hlen := lowB_length n s
  have HL := Lib.hid hlen
  clear hlen
  go_enter Try.func40, Try.ntmps40
  go_wp2_with (first
    | (go_at_call 63; refine (fits_yes _ _ (by omega) (by omega)).mono ?_; rintro e w' ⟨rfl, rfl⟩)
    | (refine wpList_make_full _ rfl (.tmp 10) (.tmp 10) 63 rfl w.heap.size 5 i0 (.int .u8 0) 1 Try.underlying63 hi hz0 hz1 .i64 .i64 _ _ s rfl rfl rfl rfl (by rw [hz2]; omega) (by unfold maxLen; omega) (Nat.le_refl _) ?_; intro w1 hown hgrow))
  rw [made_zeros] at hown
  have hown0 : w1.ownsRow w.heap.size 5 1 (.slice (some ⟨w.heap.size, 0, none⟩) s s) s (cellsB (partly (lowB n s) 0)) := by
    rw [partly_zero, HL.out]; exact hown
  have hbel : Below w.heap.size w w1 := (Below.refl _ _).grown hgrow (Nat.le_refl _) (fun k h => by cases h)
  clear hown hgrow
  go_loopw [13] (fun i wr => ∃ k : Nat, k ≤ s ∧ i = .int .i64 k ∧ wr.ownsRow w.heap.size 5 1 (.slice (some ⟨w.heap.size, 0, none⟩) s s) s (cellsB (partly (lowB n s) k)) ∧ Below w.heap.size w wr) (fun i _ => s - (intOf i).toNat)
  case atStart => exact ⟨0, Nat.zero_le _, rfl, hown0, hbel⟩
  case round =>
    obtain ⟨k, hk, rfl, hown, hb⟩ := hrel
    clear hown0 hbel
    by_cases hlt : k < s
    · obtain ⟨old, hcell⟩ := own_some hown k hlt
      have hfz := hown.frozenAt k
      have hput := own_put hown k (byteN n k)
      have hget : (lowB n s)[k]'(by rw [HL.out]; omega) = byteN n k := by simp [lowB]
      rw [← hget, partly_step _ _ (by rw [HL.out]; omega), hget] at hput
      have HP := Lib.hid hput
      have HG := Lib.hid hown
      have HB := Lib.hid hb
      clear hput hown hget hb
      go_wp2_with (go_at_call 64; refine (byteAt_any _ n k hn (by omega)).mono ?_; rintro e w' ⟨rfl, rfl⟩)
      go_roundw
      case rel => exact ⟨k + 1, by omega, by go_num, HP.out, HB.out.setCell (by simp) _⟩
      case measure => simp [intOf]; omega
    · have hks : k = s := by omega
      subst hks
      have hown2 : wr.ownsRow w.heap.size 5 1 (.slice (some ⟨w.heap.size, 0, none⟩) k k) k (cellsB (lowB n k)) := by
        have := partly_all (lowB n k); rw [HL.out] at this; rwa [this] at hown
      have HO := Lib.hid hown2
      have HB := Lib.hid hb
      clear hown2 hown hb
      go_wp2
      go_ret
      exact ⟨_, rfl, Bs.of_own HO.out, HB.out⟩
end Go.Proofs.Ythipdfmaaeoijaa
end
section
namespace Go.Proofs.Ythipdfmaaeoijaa
open Go.RowKit
set_option linter.unusedVariables false
set_option maxRecDepth 20000

/-- A key, as a value; and the one of zeros. -/
def keyC (l : List UInt8) : Array Value := (cellsB l).toArray
def keyV (l : List UInt8) : Value := .agg (keyC l)
def zeroKey : List UInt8 := List.replicate 32 0
theorem zeroKey_length : zeroKey.length = 32 := by simp [zeroKey]
theorem keyC_size (l : List UInt8) : (keyC l).size = l.length := by simp [keyC, cellsB_length]
theorem keyC_same {a b : List UInt8} (ha : a.length = 32) (hb : b.length = 32) : (keyC a).size = (keyC b).size := by rw [keyC_size, keyC_size, ha, hb]
theorem keyC_one (l : List UInt8) : ∀ u ∈ (keyC l).toList, u.oneCell' = true := by
  intro u hu
  exact cellsB_one l u (by simpa [keyC] using hu)
theorem Try.zeroK : (Try.prog.info? 32).map (·.zero) = some (some (.agg (keyC zeroKey))) := by kernel_rfl
theorem Try.sizeK : (Try.prog.info? 32).map (·.size) = some 32 := by kernel_rfl
theorem Try.sizeKey (l : List UInt8) (h : l.length = 32) : (Try.prog.info? 32).map (·.size) = some (keyC l).size := by rw [keyC_size, h]; exact Try.sizeK

theorem Try.sizeB : (Try.prog.info? 5).map (·.size) = some 1 := by kernel_rfl
theorem cellsB_min {l : List UInt8} (h : l.length = 32) : (cellsB l).length = Nat.min l.length 32 := by rw [cellsB_length, h]; rfl
theorem copy_fit {l : List UInt8} (h : l.length = 32) : 0 + (cellsB l).length ≤ (cellsB zeroKey).length := by rw [cellsB_length, cellsB_length, h, zeroKey_length]; omega
theorem copied {w : World} {g : Nat} {t : TypeId} {l : List UInt8} (h : l.length = 32) (hr : w.heap[g]? = some (.cells (splice (cellsB zeroKey) 0 (cellsB l)).toArray t (0, 0))) : RowAt w g t (keyC l) := by
  have e : splice (cellsB zeroKey) 0 (cellsB l) = cellsB l := by
    unfold splice
    rw [List.drop_eq_nil_of_le (by rw [cellsB_length, cellsB_length, h, zeroKey_length]; omega)]
    simp
  rw [e] at hr
  exact hr
theorem copy_src {w w1 w2 : World} {A : Option Addr} {n c : Nat} {l : List UInt8} {g : Nat} (h : Bs w (.slice A n c) l) (h1 : Below w.heap.size w w1) (h2 : Below w1.heap.size w1 w2) :
    0 < (cellsB l).length → some (⟨g, 0, none⟩ : Addr) = some ⟨g, 0, none⟩ ∧ ∃ ad, A = some ad ∧ ∀ j v, (cellsB l)[j]? = some v → w2.cell? (ad.add j) = some v := by
  intro hp
  refine ⟨rfl, ?_⟩
  obtain ⟨A', c', hv, _, _, h3⟩ := (h.below h1).below h2
  injection hv with e1 e2 e3
  subst e1
  rw [cellsB_length] at hp
  obtain ⟨b, off, rfl, hc⟩ := h3 hp
  refine ⟨_, rfl, fun j u hu => ?_⟩
  have hj : j < l.length := by
    have := (List.getElem?_eq_some_iff.1 hu).1
    rwa [cellsB_length] at this
  have hadd : (⟨b, off, none⟩ : Addr).add j = ⟨b, off + j, none⟩ := by unfold Addr.add; split <;> simp_all
  rw [hadd, hc j hj, ← hu, cellsB_get l j hj]

theorem below_new {w w1 w2 w3 : World} {g1 g2 : Nat} {t1 t2 t3 : TypeId} {c1 c2 c3 : Array Value} (n1 : NewRow w g1 t1 c1 w1) (n2 : NewRow w1 g2 t2 c2 w2) (p3 : PutRow w2 g1 t3 c3 w3) : Below w.heap.size w w3 :=
  p3.below (below_size n1.below n2.below) (by have := n1.below.size; have := n2.below.size; omega) (by rw [n1.spot]; exact Nat.le_refl _)




end Go.Proofs.Ythipdfmaaeoijaa
end
section
namespace Go.Proofs.Ythipdfmaaeoijaa
open Go.RowKit
set_option linter.unusedVariables false

/-- Words, as cells; an array of them. -/
def cellsW (l : List UInt32) : List Value := l.map fun x => Value.int .u32 (x.toNat : Int)
def wordsC (l : List UInt32) : Array Value := (cellsW l).toArray
theorem cellsW_length (l : List UInt32) : (cellsW l).length = l.length := by simp [cellsW]
theorem wordsC_size (l : List UInt32) : (wordsC l).size = l.length := by simp [wordsC, cellsW]
theorem cellsW_one (l : List UInt32) : ∀ u ∈ cellsW l, u.oneCell' = true := by
  intro u hu
  obtain ⟨b, _, rfl⟩ := List.mem_map.1 hu
  rfl
theorem wordsC_one (l : List UInt32) : ∀ u ∈ (wordsC l).toList, u.oneCell' = true := by
  intro u hu
  exact cellsW_one l u (by simpa [wordsC] using hu)
theorem wordsC_get (l : List UInt32) (j : Nat) (h : j < l.length) : (wordsC l)[j]? = some (.int .u32 ((l.getD j 0).toNat : Int)) := by
  simp [wordsC, cellsW, h]
theorem wordsC_cell {w : World} {g : Nat} {t : TypeId} {l : List UInt32} (h : RowAt w g t (wordsC l)) (j : Nat) (hj : j < l.length) : w.cell? ⟨g, j, none⟩ = some (.int .u32 ((l.getD j 0).toNat : Int)) := by
  rw [h.cell, wordsC_get l j hj]
theorem wordsC_put (l : List UInt32) (j : Nat) (x : UInt32) : (wordsC l).setIfInBounds j (.int .u32 (x.toNat : Int)) = wordsC (l.set j x) := by
  apply Array.toList_inj.1
  simp [wordsC, cellsW, List.map_set]
theorem bytesC_cell {w : World} {g : Nat} {t : TypeId} {l : List UInt8} (h : RowAt w g t (keyC l)) (j : Nat) (hj : j < l.length) : w.cell? ⟨g, j, none⟩ = some (.int .u8 (l[j].toNat : Int)) := by
  rw [h.cell]
  have := cellsB_get l j hj
  simpa [keyC] using this

/-- A part of an array of bytes, as a slice. -/
theorem Bs.part {w : World} {g : Nat} {t : TypeId} {l : List UInt8} (h : RowAt w g t (keyC l)) (off n c : Nat) (hn : off + n ≤ l.length) (hc : n ≤ c) (hm : c ≤ maxLen) : Bs w (.slice (some ⟨g, off, none⟩) n c) ((l.drop off).take n) := by
  have hl : ((l.drop off).take n).length = n := by simp; omega
  refine ⟨_, c, by rw [hl], by rw [hl]; exact hc, hm, fun _ => ⟨g, off, rfl, fun j hj => ?_⟩⟩
  rw [hl] at hj
  rw [bytesC_cell h (off + j) (by omega)]
  simp

/-- 'x[l:h]' of an array that lies in a row. -/
theorem run_sliceArr {P : Program} (w : World) (t e : TypeId) (n : Nat) (ht : P.underlying t = some (.array n e)) (hs : (P.info? e).map (·.size) = some 1) (g off l h : Nat) (i j : Int) (hi : i = (l : Int)) (hj : j = (h : Int)) (h1 : l ≤ h) (h2 : h ≤ n) (h3 : l < n) :
    (Instr.sliceAt t (.pointer (some ⟨g, off, none⟩)) (some (.int .i64 i)) (some (.int .i64 j)) none).run P w = .ok (.slice (some ⟨g, off + l, none⟩) (h - l) (n - l)) w := by
  subst hi hj
  obtain ⟨f, hf, hz⟩ := Option.map_eq_some_iff.1 hs
  have hlen : P.arrayLen t = n := by simp [Program.arrayLen, ht]
  have hel : P.elem t = e := by simp [Program.elem, ht]
  rw [run_sliceAt_array_lh w t ⟨g, off, none⟩ (by rw [hlen, hel]; exact ht) .i64 .i64 _ _ (by omega) (by omega) (by rw [hlen]; omega)]
  have hadd : (⟨g, off, none⟩ : Addr).add l = ⟨g, off + l, none⟩ := by unfold Addr.add; split <;> simp_all
  simp [hel, hlen, sizeOf, typeInfo, hf, hz, slicedAt, show ¬ n = l by omega, hadd]
/-- 'x[l:]'. -/
theorem run_sliceArrL {P : Program} (w : World) (t e : TypeId) (n : Nat) (ht : P.underlying t = some (.array n e)) (hs : (P.info? e).map (·.size) = some 1) (g off l : Nat) (i : Int) (hi : i = (l : Int)) (h3 : l < n) :
    (Instr.sliceAt t (.pointer (some ⟨g, off, none⟩)) (some (.int .i64 i)) none none).run P w = .ok (.slice (some ⟨g, off + l, none⟩) (n - l) (n - l)) w := by
  subst hi
  obtain ⟨f, hf, hz⟩ := Option.map_eq_some_iff.1 hs
  have hlen : P.arrayLen t = n := by simp [Program.arrayLen, ht]
  have hel : P.elem t = e := by simp [Program.elem, ht]
  rw [run_sliceAt_array_l w t ⟨g, off, none⟩ (by rw [hlen, hel]; exact ht) .i64 _ (by omega) (by rw [hlen]; omega)]
  have hadd : (⟨g, off, none⟩ : Addr).add l = ⟨g, off + l, none⟩ := by unfold Addr.add; split <;> simp_all
  simp [hel, hlen, sizeOf, typeInfo, hf, hz, slicedAt, show ¬ n = l by omega, hadd]

/-- A row of the call's own that is full is a row as a whole. -/
theorem own_row {w : World} {base : Nat} {e : TypeId} {g n : Nat} {l : List UInt8} (h : w.ownsRow base e 1 (.slice (some ⟨g, 0, none⟩) n n) n (cellsB l)) : RowAt w g e (keyC l) := by
  rcases h.2 with ⟨h1, _⟩ | ⟨g', cap, cur, hv, _, hg, _, _, hs, ht⟩
  · cases h1
  · injection hv with e1 e2 e3
    injection e1 with e1
    injection e1 with e1
    subst e1 e3
    have : cur = keyC l := by
      apply Array.toList_inj.1
      rw [List.take_of_length_le (by simp [hs])] at ht
      rw [ht]
      rfl
    rw [this] at hg
    exact hg
theorem row_bs {w : World} {g : Nat} {t : TypeId} {l : List UInt8} (h : RowAt w g t (keyC l)) (hm : l.length ≤ maxLen) : Bs w (.slice (some ⟨g, 0, none⟩) l.length l.length) l := by
  have := Bs.part h 0 l.length l.length (by omega) (Nat.le_refl _) hm
  simpa using this
theorem bytesC_put (l : List UInt8) (j : Nat) (b : UInt8) : (keyC l).setIfInBounds j (.int .u8 (b.toNat : Int)) = keyC (l.set j b) := by
  apply Array.toList_inj.1
  simp [keyC, cellsB, List.map_set]
theorem splice_bytes (l m : List UInt8) (off : Nat) : splice (cellsB l) off (cellsB m) = cellsB (l.take off ++ m ++ l.drop (off + m.length)) := by
  unfold splice
  simp [cellsB]

theorem copy_from {w : World} {A : Option Addr} {n c : Nat} {l : List UInt8} {d : Option Addr} (h : Bs w (.slice A n c) l) :
    0 < (cellsB l).length → d = d ∧ ∃ ad, A = some ad ∧ ∀ j v, (cellsB l)[j]? = some v → w.cell? (ad.add j) = some v := by
  intro hp
  refine ⟨rfl, ?_⟩
  obtain ⟨A', c', hv, _, _, h3⟩ := h
  injection hv with e1 e2 e3
  subst e1
  rw [cellsB_length] at hp
  obtain ⟨b, off, rfl, hc⟩ := h3 hp
  refine ⟨_, rfl, fun j u hu => ?_⟩
  have hj : j < l.length := by
    have := (List.getElem?_eq_some_iff.1 hu).1
    rwa [cellsB_length] at this
  have hadd : (⟨b, off, none⟩ : Addr).add j = ⟨b, off + j, none⟩ := by unfold Addr.add; split <;> simp_all
  rw [hadd, hc j hj, ← hu, cellsB_get l j hj]

/-- 'x[i]' of an array by value. -/
theorem run_index_arr {P : Program} (w : World) (t e : TypeId) (n : Nat) (cs : Array Value) (kd ek : IntKind) (i : Nat) (ht : P.underlying t = some (.array n e)) (he : P.underlying e = some (.int ek)) (hs : (P.info? e).map (·.size) = some 1) (hi : i < n) (v : Value) (hv : cs[i]? = some v) :
    (Instr.index t (.agg cs) (.int kd (i : Int))).run P w = .ok v w := by
  obtain ⟨f, hf, hz⟩ := Option.map_eq_some_iff.1 hs
  simp [Instr.index, run_underlying ht, asIntOf, hi, part, isAgg, run_underlying he, sizeOf, typeInfo, hf, hz, hv, go_sem]
/-- The same, where the element is an array of m cells. -/
theorem run_index_arr_agg {P : Program} (w : World) (t e e2 : TypeId) (n m k : Nat) (cs : Array Value) (kd : IntKind) (i : Nat) (ht : P.underlying t = some (.array n e)) (he : P.underlying e = some (.array k e2)) (hs : (P.info? e).map (·.size) = some m) (hi : i < n) :
    (Instr.index t (.agg cs) (.int kd (i : Int))).run P w = .ok (.agg (cs.extract (i * m) (i * m + m))) w := by
  obtain ⟨f, hf, hz⟩ := Option.map_eq_some_iff.1 hs
  simp [Instr.index, run_underlying ht, asIntOf, hi, part, isAgg, run_underlying he, sizeOf, typeInfo, hf, hz, go_sem]

/-- Bytes that are there, and zeros behind them. -/
def fillB (a : List UInt8) (n : Nat) : List UInt8 := a ++ List.replicate (n - a.length) 0
theorem fillB_length (a : List UInt8) (n : Nat) (h : a.length ≤ n) : (fillB a n).length = n := by simp [fillB]; omega
theorem fillB_step (a m : List UInt8) (n : Nat) (h : a.length + m.length ≤ n) : (fillB a n).take a.length ++ m ++ (fillB a n).drop (a.length + m.length) = fillB (a ++ m) n := by
  unfold fillB
  rw [List.take_left, List.drop_append, List.drop_of_length_le (by omega), List.nil_append, List.drop_replicate, List.length_append,
    show n - a.length - (a.length + m.length - a.length) = n - (a.length + m.length) by omega]
theorem fillB_set (a : List UInt8) (n : Nat) (x : UInt8) (h : a.length < n) : (fillB a n).set a.length x = fillB (a ++ [x]) n := by
  unfold fillB
  rw [List.set_append_right _ _ (Nat.le_refl _), Nat.sub_self, show n - a.length = (n - (a ++ [x]).length) + 1 by simp; omega, List.replicate_succ, List.set_cons_zero]
  simp
theorem fillB_all (a : List UInt8) (n : Nat) (h : a.length = n) : fillB a n = a := by simp [fillB, h]
theorem fillB_zero (n : Nat) : fillB [] n = List.replicate n 0 := by simp [fillB]
end Go.Proofs.Ythipdfmaaeoijaa
end
section
namespace Go.Proofs.Ythipdfmaaeoijaa
open Go.RowKit
set_option linter.unusedVariables false
set_option maxRecDepth 20000

theorem Low_out (w : World) (n : Nat) (s : Int) (h : s < 1 ∨ 8 < s) :
    Calls Try.prog 40 #[.int .u64 (n : Int), .int .i64 s] w (RetBs w []) := by
  go_enter Try.func40, Try.ntmps40
  go_wp2_with (go_at_call 63; refine (fits_no _ _ h).mono ?_; rintro e w' ⟨rfl, rfl⟩)
  go_ret
  exact ⟨_, rfl, Bs.nil _, Below.refl _ _⟩

theorem Low_any (w : World) (n : Nat) (hn : n < 18446744073709551616) (s : Int) :
    Calls Try.prog 40 #[.int .u64 (n : Int), .int .i64 s] w (RetBs w (lowI n s)) := by
  by_cases h : s < 1 ∨ 8 < s
  · rw [lowI_out n s h]
    exact Low_out w n s h
  · obtain ⟨t, rfl⟩ := Int.eq_ofNat_of_zero_le (a := s) (by omega)
    rw [lowI_in n t (by omega) (by omega)]
    exact Low_in w n t hn (by omega) (by omega)





end Go.Proofs.Ythipdfmaaeoijaa
end
section
namespace Go.Proofs.Ythipdfmaaeoijaa
open Go.RowKit
set_option linter.unusedVariables false
set_option maxRecDepth 20000

theorem take8 (l : List UInt8) (k : Nat) (hk : k ≤ l.length) (h8 : k ≤ 8) (h : ¬ (k < 8 ∧ k < l.length)) : l.take 8 = l.take k := by
  by_cases h1 : k = 8
  · rw [h1]
  · rw [List.take_of_length_le (by omega), List.take_of_length_le (by omega)]

theorem mul256_lt (k b : Nat) (hk : k < 8) (hb : b < 256) : 256 ^ k * b < 18446744073709551616 := by
  have h1 : 256 ^ k * b < 256 ^ k * 256 := Nat.mul_lt_mul_of_pos_left hb (Nat.pow_pos (by omega))
  have h2 := pow256_le (k + 1) (by omega)
  rw [Nat.pow_succ] at h2
  omega

theorem or_low (k q b : Nat) (hk : k < 8) (hq : q < 256 ^ k) (hb : b < 256) :
    bits .or .u64 (q : Int) (IntKind.u64.wrap ((b : Int) * 2 ^ (8 * k))) = ((q + 256 ^ k * b : Nat) : Int) := by
  have hv : ((b : Int) * 2 ^ (8 * k)) = ((256 ^ k * b : Nat) : Int) := by
    have h : (2 : Int) ^ (8 * k) = ((256 ^ k : Nat) : Int) := by
      rw [show (256 : Nat) = 2 ^ 8 from rfl, ← Nat.pow_mul]
      simp
    rw [h, Int.natCast_mul, Int.mul_comm]
  have hlt := mul256_lt k b hk hb
  have hw : IntKind.u64.wrap ((256 ^ k * b : Nat) : Int) = ((256 ^ k * b : Nat) : Int) := by
    rw [IntKind.wrap_u64]; omega
  have hq2 : q < 18446744073709551616 := Nat.lt_of_lt_of_le hq (pow256_le k (by omega))
  rw [hv, hw, u64_or_nat _ _ hq2 hlt]
  have e : 256 ^ k = 2 ^ (8 * k) := by rw [show (256 : Nat) = 2 ^ 8 from rfl, ← Nat.pow_mul]
  have := Nat.two_pow_add_eq_or_of_lt (b := q) (i := 8 * k) (by rw [← e]; exact hq) b
  rw [Nat.or_comm, e, ← this, Nat.add_comm]

theorem or_high (k q b : Nat) (hk : k < 8) (hq : q < 256 ^ k) (hb : b < 256) :
    bits .or .u64 (IntKind.u64.wrap ((q : Int) * 256)) (b : Int) = ((q * 256 + b : Nat) : Int) := by
  have h2 := pow256_le (k + 1) (by omega)
  rw [Nat.pow_succ] at h2
  have hw : IntKind.u64.wrap ((q : Int) * 256) = ((2 ^ 8 * q : Nat) : Int) := by
    rw [IntKind.wrap_u64]; omega
  have := Nat.two_pow_add_eq_or_of_lt (b := b) (i := 8) hb q
  rw [hw, u64_or_nat _ _ (by omega) (by omega), ← this]
  omega

set_option maxHeartbeats 400000 in
theorem OfLow_any (w : World) (v : Value) (l : List UInt8) (h : Bs w v l) :
    Calls Try.prog 42 #[v] w fun e w' => e = .returned (.int .u64 (ofLowB (l.take 8) : Int)) ∧ w = w' := by
  obtain ⟨A, c, rfl, h1, h2, h3⟩ := h
  unfold maxLen at h2
  by_cases h8 : 8 < l.length
  all_goals
    go_enter Try.func42, Try.ntmps42
    go_wp2
    go_loop [3, 8] (fun n i => ∃ k q : Nat, k ≤ 8 ∧ k ≤ l.length ∧ i = .int .i64 k ∧ q = ofLowB (l.take k) ∧ n = .int .u64 (q : Int)) (fun _ i => 8 - (intOf i).toNat)
    case atStart => exact ⟨0, 0, by omega, Nat.zero_le _, rfl, by simp [ofLowB], rfl⟩
    case round =>
      obtain ⟨k, q, hk, hk2, rfl, hq, rfl⟩ := hrel
      have hql : q < 256 ^ k := by
        have := ofLowB_lt (l.take k); rw [← hq, List.length_take_of_le (by omega)] at this; exact this
      have hq64 : q < 18446744073709551616 := Nat.lt_of_lt_of_le hql (pow256_le k (by omega))
      have HQ := Lib.hid hq
      have HQL := Lib.hid hql
      clear hq hql
      by_cases hlt : k < 8 ∧ k < l.length
      · obtain ⟨hlt1, hlt2⟩ := hlt
        obtain ⟨b0, o0, rfl, hc⟩ := h3 (by omega)
        have hcell := hc k (by omega)
        have hb := l[k].toNat_lt
        clear hc
        go_wp2
        go_round
        case rel => 
          refine ⟨k + 1, ofLowB (l.take (k + 1)), by omega, by omega, by go_num, rfl, ?_⟩
          rw [or_low k q _ hlt1 HQL.out hb, List.take_succ_eq_append_getElem hlt2, ofLowB_snoc, List.length_take_of_le hk2, HQ.out]
        case measure => simp [intOf]; omega
      · have hfin := take8 l k hk2 hk hlt
        have HF := Lib.hid hfin
        clear hfin
        go_wp2
        go_ret
        exact ⟨ret_int (by rw [HF.out, HQ.out]), rfl⟩



end Go.Proofs.Ythipdfmaaeoijaa
end
