/-
  Contract of the field's Choose. Conditions: both numbers are below p.
-/
import Derived.Test.YtpgjcmccfpjmoaaFieldL
namespace Go.Proofs.Ytpgjcmccfpjmoaa
open Go.RowKit
set_option linter.unusedVariables false
set_option maxRecDepth 20000

/-- By a mask of ones it is the first, by none the other one. -/
theorem mask_pick (a b m v : Nat) (ha : a < 2251799813685248) (hb : b < 2251799813685248) (h : (m = 18446744073709551615 ∧ v = a) ∨ (m = 0 ∧ v = b)) :
    ∃ z u : Nat, bits .xor .u64 (a : Int) (b : Int) = (z : Int) ∧ bits .and .u64 (m : Int) (z : Int) = (u : Int) ∧ bits .xor .u64 (b : Int) (u : Int) = (v : Int) := by
  have hz : a ^^^ b < 2 ^ 64 := Nat.xor_lt_two_pow (by omega) (by omega)
  rcases h with ⟨rfl, rfl⟩ | ⟨rfl, rfl⟩
  · refine ⟨v ^^^ b, v ^^^ b, u64_xor_nat v b (by omega) (by omega), ?_, ?_⟩
    · rw [u64_and_nat _ _ (by omega) (by omega), Nat.and_comm]
      congr 1
      exact (Nat.and_two_pow_sub_one_eq_mod _ 64).trans (Nat.mod_eq_of_lt hz)
    · rw [u64_xor_nat b (v ^^^ b) (by omega) (by omega)]
      congr 1
      rw [Nat.xor_comm, Nat.xor_assoc, Nat.xor_self, Nat.xor_zero]
  · refine ⟨a ^^^ v, 0, u64_xor_nat a v (by omega) (by omega), ?_, ?_⟩
    · rw [u64_and_nat _ _ (by omega) (by omega), Nat.zero_and]
    · rw [u64_xor_nat v 0 (by omega) (by omega), Nat.xor_zero]

set_option maxHeartbeats 2000000 in
theorem Choose_any (first : Bool) (a b : Nat) (ha : a < pF) (hb : b < pF) (w : World) :
    Calls Try.prog 53 #[.bool first, .agg (natsC (elemL a)), .agg (natsC (elemL b))] w (RetV w (.agg (natsC (elemL (if first then a else b))))) := by
  obtain ⟨x, hx⟩ : ∃ x, x = elemL a := ⟨_, rfl⟩
  obtain ⟨y, hy⟩ : ∃ y, y = elemL b := ⟨_, rfl⟩
  obtain ⟨z, hz⟩ : ∃ z, z = if first then x else y := ⟨_, rfl⟩
  have HXL : Hid (x.length = 5) := by show _ = _; rw [hx, elemL_length]
  have HYL : Hid (y.length = 5) := by show _ = _; rw [hy, elemL_length]
  have HZL : Hid (z.length = 5) := by show _ = _; rw [hz]; split <;> first | exact HXL.out | exact HYL.out
  have HXB : Hid (∀ k, x.getD k 0 < 2251799813685248) := fun k => by rw [hx]; exact getD_lt (elemL_lt a) (by decide) k
  have HYB : Hid (∀ k, y.getD k 0 < 2251799813685248) := fun k => by rw [hy]; exact getD_lt (elemL_lt b) (by decide) k
  obtain ⟨m, hm⟩ : ∃ m : Nat, m = if first then 18446744073709551615 else 0 := ⟨_, rfl⟩
  have HM : Hid (∀ k, (m = 18446744073709551615 ∧ z.getD k 0 = x.getD k 0) ∨ (m = 0 ∧ z.getD k 0 = y.getD k 0)) := fun k => by
    rw [hm, hz]
    cases first
    · exact .inr ⟨rfl, rfl⟩
    · exact .inl ⟨rfl, rfl⟩
  have hres : elemL (if first then a else b) = z := by rw [hz, hx, hy]; split <;> rfl
  rw [hres, ← hx, ← hy]
  have E0 := Env.start w
  have hmb : m < 18446744073709551616 := by rw [hm]; split <;> omega
  clear hx hy hz hres
  cases first
  · have HMM : Hid ((m : Int) = 0) := by show _ = _; rw [hm]; rfl
    clear hm
    go_enter Try.func53, Try.ntmps53
    go_wp2_with (first
      | ((with_reducible refine wpE_box (o := ⟨some 4, _, _, _, _, _⟩) rfl 45 (.tmp 1) rfl (natsC x) (by with_unfolding_all rfl) E0 ?_); intro g1 w1 E1)
      | ((with_reducible refine wpE_box (o := ⟨some 5, _, _, _, _, _⟩) rfl 45 (.tmp 2) rfl (natsC y) (by with_unfolding_all rfl) E1 ?_); intro g2 w2 E2)
      | ((with_reducible refine wpE_alloc (o := ⟨some 6, _, _, _, _, _⟩) rfl 45 rfl (natsC zero5) Try.zero5e E2 ?_); intro g3 w3 E3; have E6 := Lib.hid E3; clear E0 E1 E2 E3))
    go_loopw [12] (fun i wr => ∃ k : Nat, k ≤ 5 ∧ i = .int .i64 k ∧ Env w [(g3, 45, natsC zero5), (g2, 45, natsC (stP z y k)), (g1, 45, natsC x)] wr) (fun i _ => 5 - (intOf i).toNat)
    case atStart => exact ⟨0, by omega, rfl, by rw [stP_zero]; exact E6.out⟩
    case round =>
      clear E6
      obtain ⟨k, hk, rfl, hE⟩ := hrel
      have E := Lib.hid hE
      clear hE
      by_cases hlt : k < 5
      · have c1 := E.out.getN 1 rfl k (by rw [stP_length z y HZL.out HYL.out k hk]; exact hlt)
        rw [stP_get z y HZL.out HYL.out k hlt] at c1
        have c2 := E.out.getN 2 rfl k (by rw [HXL.out]; exact hlt)
        have f1 := E.out.fzN 1 rfl k
        have hk5 : (k : Int) < 5 := by omega
        obtain ⟨zz, u, q1, q2, q3⟩ := mask_pick _ _ _ _ (HXB.out k) (HYB.out k) (HM.out k)
        have hstep := stP_step z y HZL.out HYL.out k hlt
        rw [HMM.out] at q2
        generalize x.getD k 0 = xv at c2 q1
        generalize y.getD k 0 = yv at c1 q1 q3
        generalize z.getD k 0 = zv at q3 hstep
        have HS := Lib.hid hstep
        clear hstep
        go_wp2_with fail
        go_still_tail 18, (by kernel_rfl)
        change wpList _ _ _ _ _ wr.drew
        have c3 : wr.drew.cell? ⟨g2, k, none⟩ = some (.int .u64 (yv : Int)) := c1
        have f3 : wr.drew.frozen? ⟨g2, k, none⟩ = false := f1
        clear c1 c2 f1 q1 q2 q3
        have E5 := E.out.drew.cellN 1 rfl k zv
        simp only [List.set_cons_zero, List.set_cons_succ] at E5
        rw [HS.out] at E5
        have HE5 := Lib.hid E5
        clear E5 E
        go_wp2
        go_roundw
        case rel => exact ⟨k + 1, by omega, by go_num, HE5.out⟩
        case measure => simp [intOf]; omega
      · have hk5 : k = 5 := by omega
        have E5 := E.out
        rw [hk5, stP_all z y HZL.out HYL.out] at E5
        have E6 := Lib.hid E5
        clear E5 E hk5
        go_wp2_with (first
          | (with_reducible refine wpE_load (o := ⟨some 34, _, _, _, _, _⟩) rfl 45 (.tmp 5) rfl 1 g2 45 (natsC z) _ (by with_unfolding_all rfl) (by with_unfolding_all rfl) Try.underlying45 rfl (sizeN Try.sz5e _ HZL.out) E6.out ?_)
          | ((with_reducible refine wpE_store (o := ⟨none, _, _, _, _, _⟩) rfl 45 (.tmp 6) (.tmp 34) rfl 0 g3 45 (natsC zero5) (natsC z) (by with_unfolding_all rfl) (by with_unfolding_all rfl) (by with_unfolding_all rfl) (natsC_same zero5_length HZL.out) (sizeN Try.sz5e _ HZL.out) (natsC_one _) E6.out ?_); intro w9 E9; simp only [List.set_cons_zero] at E9))
        exact bodyPost_ret (results_cell_row rfl _ _ g3 45 (natsC z) (0, 0) _ rfl (E9.row 0 rfl) Try.underlying45 rfl (sizeN Try.sz5e _ HZL.out)) rfl (E9.ret _)
  · have HMM : Hid ((m : Int) = bits .xor .u64 IntKind.u64.max 0) := by show _ = _; rw [hm]; decide +kernel
    clear hm
    go_enter Try.func53, Try.ntmps53
    go_wp2_with (first
      | ((with_reducible refine wpE_box (o := ⟨some 4, _, _, _, _, _⟩) rfl 45 (.tmp 1) rfl (natsC x) (by with_unfolding_all rfl) E0 ?_); intro g1 w1 E1)
      | ((with_reducible refine wpE_box (o := ⟨some 5, _, _, _, _, _⟩) rfl 45 (.tmp 2) rfl (natsC y) (by with_unfolding_all rfl) E1 ?_); intro g2 w2 E2)
      | ((with_reducible refine wpE_alloc (o := ⟨some 6, _, _, _, _, _⟩) rfl 45 rfl (natsC zero5) Try.zero5e E2 ?_); intro g3 w3 E3; have E6 := Lib.hid E3; clear E0 E1 E2 E3))
    go_loopw [12] (fun i wr => ∃ k : Nat, k ≤ 5 ∧ i = .int .i64 k ∧ Env w [(g3, 45, natsC zero5), (g2, 45, natsC (stP z y k)), (g1, 45, natsC x)] wr) (fun i _ => 5 - (intOf i).toNat)
    case atStart => exact ⟨0, by omega, rfl, by rw [stP_zero]; exact E6.out⟩
    case round =>
      clear E6
      obtain ⟨k, hk, rfl, hE⟩ := hrel
      have E := Lib.hid hE
      clear hE
      by_cases hlt : k < 5
      · have c1 := E.out.getN 1 rfl k (by rw [stP_length z y HZL.out HYL.out k hk]; exact hlt)
        rw [stP_get z y HZL.out HYL.out k hlt] at c1
        have c2 := E.out.getN 2 rfl k (by rw [HXL.out]; exact hlt)
        have f1 := E.out.fzN 1 rfl k
        have hk5 : (k : Int) < 5 := by omega
        obtain ⟨zz, u, q1, q2, q3⟩ := mask_pick _ _ _ _ (HXB.out k) (HYB.out k) (HM.out k)
        have hstep := stP_step z y HZL.out HYL.out k hlt
        rw [HMM.out] at q2
        generalize x.getD k 0 = xv at c2 q1
        generalize y.getD k 0 = yv at c1 q1 q3
        generalize z.getD k 0 = zv at q3 hstep
        have HS := Lib.hid hstep
        clear hstep
        go_wp2_with fail
        go_still_tail 18, (by kernel_rfl)
        change wpList _ _ _ _ _ wr.drew
        have c3 : wr.drew.cell? ⟨g2, k, none⟩ = some (.int .u64 (yv : Int)) := c1
        have f3 : wr.drew.frozen? ⟨g2, k, none⟩ = false := f1
        clear c1 c2 f1 q1 q2 q3
        have E5 := E.out.drew.cellN 1 rfl k zv
        simp only [List.set_cons_zero, List.set_cons_succ] at E5
        rw [HS.out] at E5
        have HE5 := Lib.hid E5
        clear E5 E
        go_wp2
        go_roundw
        case rel => exact ⟨k + 1, by omega, by go_num, HE5.out⟩
        case measure => simp [intOf]; omega
      · have hk5 : k = 5 := by omega
        have E5 := E.out
        rw [hk5, stP_all z y HZL.out HYL.out] at E5
        have E6 := Lib.hid E5
        clear E5 E hk5
        go_wp2_with (first
          | (with_reducible refine wpE_load (o := ⟨some 34, _, _, _, _, _⟩) rfl 45 (.tmp 5) rfl 1 g2 45 (natsC z) _ (by with_unfolding_all rfl) (by with_unfolding_all rfl) Try.underlying45 rfl (sizeN Try.sz5e _ HZL.out) E6.out ?_)
          | ((with_reducible refine wpE_store (o := ⟨none, _, _, _, _, _⟩) rfl 45 (.tmp 6) (.tmp 34) rfl 0 g3 45 (natsC zero5) (natsC z) (by with_unfolding_all rfl) (by with_unfolding_all rfl) (by with_unfolding_all rfl) (natsC_same zero5_length HZL.out) (sizeN Try.sz5e _ HZL.out) (natsC_one _) E6.out ?_); intro w9 E9; simp only [List.set_cons_zero] at E9))
        exact bodyPost_ret (results_cell_row rfl _ _ g3 45 (natsC z) (0, 0) _ rfl (E9.row 0 rfl) Try.underlying45 rfl (sizeN Try.sz5e _ HZL.out)) rfl (E9.ret _)
end Go.Proofs.Ytpgjcmccfpjmoaa
