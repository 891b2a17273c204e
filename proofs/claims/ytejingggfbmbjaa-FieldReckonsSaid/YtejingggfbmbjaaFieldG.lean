/-
  Contracts of the field's Small, Equal, IsZero, Choose. Conditions: as each theorem names them.
-/
import Derived.Test.YtejingggfbmbjaaFieldF
namespace Go.Proofs.Ytejingggfbmbjaa
open Go.RowKit
set_option linter.unusedVariables false
set_option maxRecDepth 20000

theorem small_elem (n : Nat) (hn : n < 18446744073709551616) : [n % 2251799813685248, n / 2251799813685248, 0, 0, 0] = elemL n := by
  unfold elemL
  rw [digL5]
  simp only [List.cons.injEq, and_true]
  unfold Mx
  omega
theorem smallV (a b : Nat) : Value.agg #[.int .u64 (a : Int), .int .u64 (b : Int), .int .u64 0, .int .u64 0, .int .u64 0] = .agg (natsC [a, b, 0, 0, 0]) := rfl
theorem small_length (a b : Nat) : [a, b, 0, 0, 0].length = 5 := rfl

set_option maxHeartbeats 1000000 in
theorem Small_any (n : Nat) (hn : n < 18446744073709551616) (w : World) :
    Calls Try.prog 14 #[.int .u64 (n : Int)] w (RetV w (.agg (natsC (elemL n)))) := by
  have he := small_elem n hn
  have hand := and51 n hn
  obtain ⟨a, ha⟩ : ∃ a, a = n % 2251799813685248 := ⟨_, rfl⟩
  obtain ⟨b, hb⟩ : ∃ b, b = n / 2251799813685248 := ⟨_, rfl⟩
  have hdiv : (n : Int) / 2251799813685248 = (b : Int) := by omega
  rw [← ha, ← hb] at he
  rw [← ha] at hand
  rw [← he]
  clear ha hb he
  have E0 := Env.start w
  go_enter Try.func14, Try.ntmps14
  go_wp2_with (first
    | ((with_reducible refine wpE_alloc (o := ⟨some 2, _, _, _, _, _⟩) rfl 29 rfl (natsC zero5) Try.zero5e E0 ?_); intro g1 w1 E1)
    | ((with_reducible refine wpE_store (o := ⟨none, _, _, _, _, _⟩) rfl 29 (.tmp 2) (.tmp 8) rfl 0 g1 29 (natsC zero5) (natsC [a, b, 0, 0, 0]) (by with_unfolding_all rfl) (by with_unfolding_all rfl) (by with_unfolding_all exact smallV a b) (natsC_same zero5_length (small_length a b)) (sizeN Try.sz5e _ (small_length a b)) (natsC_one _) E1 ?_); intro w9 E9))
  exact bodyPost_ret (results_cell_row rfl _ _ g1 29 (natsC [a, b, 0, 0, 0]) (0, 0) _ rfl (E9.row 0 rfl) Try.underlying29 rfl (sizeN Try.sz5e _ (small_length a b))) rfl (E9.ret _)

theorem elem_eq (a b : Nat) (ha : a < pF) (hb : b < pF) : (elemL a == elemL b) = (a == b) := by
  rw [Bool.eq_iff_iff, beq_iff_eq, beq_iff_eq]
  exact ⟨elemL_inj ha hb, fun h => by rw [h]⟩

set_option maxHeartbeats 1000000 in
theorem Equal_any (a b : Nat) (ha : a < pF) (hb : b < pF) (w : World) :
    Calls Try.prog 26 #[.agg (natsC (elemL a)), .agg (natsC (elemL b))] w (RetV w (.bool (a == b))) := by
  have hQ := fun W => Try.eqPartsIn (elemL a) (elemL b) (elemL_length a) (elemL_length b) W
  rw [elem_eq a b ha hb] at hQ
  generalize (a == b) = r at hQ ⊢
  have HA := Lib.hid (elemL_length a)
  have HB := Lib.hid (elemL_length b)
  generalize elemL a = x at *
  generalize elemL b = y at *
  clear ha hb
  have E0 := Env.start w
  go_enter Try.func26, Try.ntmps26
  go_wp2_with (first
    | ((with_reducible refine wpE_box (o := ⟨some 2, _, _, _, _, _⟩) rfl 29 (.tmp 0) rfl (natsC x) (by with_unfolding_all rfl) E0 ?_); intro g1 w1 E1)
    | ((with_reducible refine wpE_box (o := ⟨some 3, _, _, _, _, _⟩) rfl 29 (.tmp 1) rfl (natsC y) (by with_unfolding_all rfl) E1 ?_); intro g2 w2 E2)
    | (with_reducible refine wpE_load (o := ⟨some 6, _, _, _, _, _⟩) rfl 27 (.tmp 5) rfl 1 g1 29 (natsC x) (.array 5 24) (by with_unfolding_all rfl) (by with_unfolding_all rfl) Try.underlying27 rfl (sizeN Try.sz5p _ HA.out) E2 ?_)
    | (with_reducible refine wpE_load (o := ⟨some 8, _, _, _, _, _⟩) rfl 27 (.tmp 7) rfl 0 g2 29 (natsC y) (.array 5 24) (by with_unfolding_all rfl) (by with_unfolding_all rfl) Try.underlying27 rfl (sizeN Try.sz5p _ HB.out) E2 ?_))
  go_ret
  exact E2.ret _

set_option maxHeartbeats 1000000 in
theorem IsZero_any (a : Nat) (ha : a < pF) (w : World) :
    Calls Try.prog 15 #[.agg (natsC (elemL a))] w (RetV w (.bool (a == 0))) := by
  have hQ : ∀ W, (Op.equalIn 10000 27 (.agg (natsC (elemL a))) (.agg #[.int .u64 0, .int .u64 0, .int .u64 0, .int .u64 0, .int .u64 0])).run Try.prog W = .ok (a == 0) W := fun W => by
    have h := Try.eqPartsIn (elemL a) (elemL 0) (elemL_length a) (elemL_length 0) W
    rw [elem_eq a 0 ha (by decide)] at h
    exact h
  generalize (a == 0) = r at hQ ⊢
  have HA := Lib.hid (elemL_length a)
  generalize elemL a = x at *
  clear ha
  have E0 := Env.start w
  go_enter Try.func15, Try.ntmps15
  go_wp2_with (first
    | ((with_reducible refine wpE_box (o := ⟨some 1, _, _, _, _, _⟩) rfl 29 (.tmp 0) rfl (natsC x) (by with_unfolding_all rfl) E0 ?_); intro g1 w1 E1)
    | (with_reducible refine wpE_load (o := ⟨some 4, _, _, _, _, _⟩) rfl 27 (.tmp 3) rfl 0 g1 29 (natsC x) (.array 5 24) (by with_unfolding_all rfl) (by with_unfolding_all rfl) Try.underlying27 rfl (sizeN Try.sz5p _ HA.out) E1 ?_))
  go_ret
  exact E1.ret _
end Go.Proofs.Ytejingggfbmbjaa
