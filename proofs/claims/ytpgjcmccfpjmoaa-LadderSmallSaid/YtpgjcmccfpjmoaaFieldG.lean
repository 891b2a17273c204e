/-
  Contracts of the field's Small. Conditions: as each theorem names them.
-/
import Derived.Test.YtpgjcmccfpjmoaaFieldF
namespace Go.Proofs.Ytpgjcmccfpjmoaa
open Go.RowKit
set_option linter.unusedVariables false
set_option maxRecDepth 20000

theorem small_elem (n : Nat) (hn : n < 18446744073709551616) : [n % 2251799813685248, n / 2251799813685248, 0, 0, 0] = elemL n := by
  unfold elemL
  rw [digL5]
  simp only [List.cons.injEq, and_true]
  unfold Mx
  omega
theorem smallV (a b : Nat) : Value.agg #[.int .u64 (a : Int), .int .u64 (b : Int), .int .u64 0, .int .u64 0, .int .u64 0] = .agg (natsC [a, b, 0, 0, 0]) := rfl
theorem small_length (a b : Nat) : [a, b, 0, 0, 0].length = 5 := rfl

set_option maxHeartbeats 1000000 in
theorem Small_any (n : Nat) (hn : n < 18446744073709551616) (w : World) :
    Calls Try.prog 38 #[.int .u64 (n : Int)] w (RetV w (.agg (natsC (elemL n)))) := by
  have he := small_elem n hn
  have hand := and51 n hn
  obtain ⟨a, ha⟩ : ∃ a, a = n % 2251799813685248 := ⟨_, rfl⟩
  obtain ⟨b, hb⟩ : ∃ b, b = n / 2251799813685248 := ⟨_, rfl⟩
  have hdiv : (n : Int) / 2251799813685248 = (b : Int) := by omega
  rw [← ha, ← hb] at he
  rw [← ha] at hand
  rw [← he]
  clear ha hb he
  have E0 := Env.start w
  go_enter Try.func38, Try.ntmps38
  go_wp2_with (first
    | ((with_reducible refine wpE_alloc (o := ⟨some 2, _, _, _, _, _⟩) rfl 45 rfl (natsC zero5) Try.zero5e E0 ?_); intro g1 w1 E1)
    | ((with_reducible refine wpE_store (o := ⟨none, _, _, _, _, _⟩) rfl 45 (.tmp 2) (.tmp 8) rfl 0 g1 45 (natsC zero5) (natsC [a, b, 0, 0, 0]) (by with_unfolding_all rfl) (by with_unfolding_all rfl) (by with_unfolding_all exact smallV a b) (natsC_same zero5_length (small_length a b)) (sizeN Try.sz5e _ (small_length a b)) (natsC_one _) E1 ?_); intro w9 E9))
  exact bodyPost_ret (results_cell_row rfl _ _ g1 45 (natsC [a, b, 0, 0, 0]) (0, 0) _ rfl (E9.row 0 rfl) Try.underlying45 rfl (sizeN Try.sz5e _ (small_length a b))) rfl (E9.ret _)
end Go.Proofs.Ytpgjcmccfpjmoaa
