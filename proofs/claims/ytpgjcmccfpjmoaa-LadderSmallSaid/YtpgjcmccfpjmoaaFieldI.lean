/-
  Contract of the field's Invert: the power p - 2. Conditions: the number is below p.
-/
import Derived.Test.YtpgjcmccfpjmoaaFieldH
namespace Go.Proofs.Ytpgjcmccfpjmoaa
open Go.RowKit
set_option linter.unusedVariables false
set_option maxRecDepth 20000

def invF (a : Nat) : Nat := powF a (pF - 2)
theorem invF_lt (a : Nat) : invF a < pF := powF_lt _ _
theorem expo1 : onesE 1 4 = 31 := by decide
theorem expo2 : onesE 5 4 = 1082401 := by decide
theorem expo3 : 31 * onesE 5 4 * onesE 25 9 * 2 ^ 5 + 11 = pF - 2 := by decide +kernel

set_option maxHeartbeats 1000000 in
theorem Invert_any (a : Nat) (ha : a < pF) (w : World) :
    Calls Try.prog 43 #[.agg (natsC (elemL a))] w (RetV w (.agg (natsC (elemL (invF a))))) := by
  have H1 : Hid (∀ w, Calls Try.prog 59 #[.agg (natsC (elemL a)), .int .i64 1, .int .i64 5] w (RetV w (.agg (natsC (elemL (powF a (onesE 1 4))))))) := fun w => ones_any a ha 1 4 (by omega) (by omega) w
  have H2 : Hid (∀ w, Calls Try.prog 59 #[.agg (natsC (elemL (powF a (onesE 1 4)))), .int .i64 5, .int .i64 5] w (RetV w (.agg (natsC (elemL (powF a (onesE 1 4 * onesE 5 4))))))) := fun w => by
    have := ones_any (powF a (onesE 1 4)) (powF_lt _ _) 5 4 (by omega) (by omega) w
    rwa [powF_pow] at this
  have H3 : Hid (∀ w, Calls Try.prog 59 #[.agg (natsC (elemL (powF a (onesE 1 4 * onesE 5 4)))), .int .i64 25, .int .i64 10] w (RetV w (.agg (natsC (elemL (powF a (onesE 1 4 * onesE 5 4 * onesE 25 9))))))) := fun w => by
    have := ones_any (powF a (onesE 1 4 * onesE 5 4)) (powF_lt _ _) 25 9 (by omega) (by omega) w
    rwa [powF_pow] at this
  have H4 : Hid (∀ w, Calls Try.prog 60 #[.agg (natsC (elemL (powF a (onesE 1 4 * onesE 5 4 * onesE 25 9)))), .int .i64 5] w (RetV w (.agg (natsC (elemL (powF a (onesE 1 4 * onesE 5 4 * onesE 25 9 * 2 ^ 5))))))) := fun w => by
    have := squared_any (powF a (onesE 1 4 * onesE 5 4 * onesE 25 9)) (powF_lt _ _) 5 (by omega) w
    rwa [powF_pow] at this
  have H5 : Hid (∀ w, Calls Try.prog 61 #[.agg (natsC (elemL a)), .int .u64 11] w (RetV w (.agg (natsC (elemL (powF a 11)))))) := fun w => Power_any a ha 11 (by omega) w
  have H6 : Hid (∀ w, Calls Try.prog 42 #[.agg (natsC (elemL (powF a (onesE 1 4 * onesE 5 4 * onesE 25 9 * 2 ^ 5)))), .agg (natsC (elemL (powF a 11)))] w (RetV w (.agg (natsC (elemL (invF a)))))) := fun w => by
    have := Mul_any (powF a (onesE 1 4 * onesE 5 4 * onesE 25 9 * 2 ^ 5)) (powF a 11) (powF_lt _ _) (powF_lt _ _) w
    rwa [powF_mul, expo1, expo3] at this
  generalize powF a (onesE 1 4 * onesE 5 4 * onesE 25 9 * 2 ^ 5) = x4 at H4 H6
  generalize powF a (onesE 1 4 * onesE 5 4 * onesE 25 9) = x3 at H3 H4
  generalize powF a (onesE 1 4 * onesE 5 4) = x2 at H2 H3
  generalize powF a (onesE 1 4) = x1 at H1 H2
  generalize powF a 11 = x5 at H5 H6
  generalize invF a = x6 at H6 ⊢
  have E0 := Env.start w
  go_enter Try.func43, Try.ntmps43
  go_wp2_with (first
    | ((with_reducible refine wpE_box (o := ⟨some 1, _, _, _, _, _⟩) rfl 45 (.tmp 0) rfl (natsC (elemL a)) (by with_unfolding_all rfl) E0 ?_); intro g1 w1 E1)
    | ((with_reducible refine wpE_alloc (o := ⟨some 2, _, _, _, _, _⟩) rfl 45 rfl (natsC (zero5)) Try.zero5e E1 ?_); intro g2 w2 E2)
    | (with_reducible refine wpE_load (o := ⟨some 4, _, _, _, _, _⟩) rfl 45 (.tmp 1) rfl 1 g1 45 (natsC (elemL a)) _ (by with_unfolding_all rfl) (by with_unfolding_all rfl) Try.underlying45 rfl (sizeN Try.sz5e _ (elemL_length _)) E2 ?_)
    | ((with_reducible refine (H1.out _).mono ?_); rintro e w3 ⟨rfl, b_w3⟩; have E3 := E2.call b_w3; clear b_w3)
    | ((with_reducible refine (H2.out _).mono ?_); rintro e w4 ⟨rfl, b_w4⟩; have E4 := E3.call b_w4; clear b_w4)
    | ((with_reducible refine (H3.out _).mono ?_); rintro e w5 ⟨rfl, b_w5⟩; have E5 := E4.call b_w5; clear b_w5)
    | ((with_reducible refine wpE_alloc (o := ⟨some 3, _, _, _, _, _⟩) rfl 45 rfl (natsC (zero5)) Try.zero5e E5 ?_); intro g3 w6 E6)
    | ((with_reducible refine wpE_store (o := ⟨none, _, _, _, _, _⟩) rfl 45 (.tmp 3) (.tmp 7) rfl 0 g3 45 (natsC (zero5)) (natsC (elemL x3)) (by with_unfolding_all rfl) (by with_unfolding_all rfl) (by with_unfolding_all rfl) (natsC_same zero5_length (elemL_length _)) (sizeN Try.sz5e _ (elemL_length _)) (natsC_one _) E6 ?_); intro w7 E7; simp only [List.set_cons_zero] at E7))
  refine region_class_tail 5 _ E7.drew (by kernel_rfl) (by kernel_rfl) ?_
  simp only [List.take_succ_cons, List.take_zero, List.drop_succ_cons, List.drop_zero]
  refine qE_load (by rfl) _ (.tmp 3) rfl 0 g3 45 (natsC (elemL x3)) _ rfl rfl Try.underlying45 rfl (sizeN Try.sz5e _ (elemL_length _)) ?_
  simp only [Act.put, List.setIfInBounds_toArray, List.set_cons_zero, List.set_cons_succ]
  refine q_call (by rfl) 60 _ (fun W => by go_simp) (fun W hW => hW.calls (H4.out W)) ?_
  simp only [Act.put, List.setIfInBounds_toArray, List.set_cons_zero, List.set_cons_succ]
  refine qE_load (by rfl) _ (.tmp 1) rfl 2 g1 45 (natsC (elemL a)) _ rfl rfl Try.underlying45 rfl (sizeN Try.sz5e _ (elemL_length _)) ?_
  simp only [Act.put, List.setIfInBounds_toArray, List.set_cons_zero, List.set_cons_succ]
  refine q_call (by rfl) 61 _ (fun W => by go_simp) (fun W hW => hW.calls (H5.out W)) ?_
  simp only [Act.put, List.setIfInBounds_toArray, List.set_cons_zero, List.set_cons_succ]
  refine q_call (by rfl) 42 _ (fun W => by go_simp) (fun W hW => hW.calls (H6.out W)) ?_
  simp only [Act.put, List.setIfInBounds_toArray, List.set_cons_zero, List.set_cons_succ]
  refine wpQuiet_nil ?_
  intro w8 E8
  go_wp2_with (first
    | ((with_reducible refine wpE_store (o := ⟨none, _, _, _, _, _⟩) rfl 45 (.tmp 2) (.tmp 12) rfl 1 g2 45 (natsC (zero5)) (natsC (elemL x6)) (by with_unfolding_all rfl) (by with_unfolding_all rfl) (by with_unfolding_all rfl) (natsC_same zero5_length (elemL_length _)) (sizeN Try.sz5e _ (elemL_length _)) (natsC_one _) E8 ?_); intro w9 E9; simp only [List.set_cons_zero, List.set_cons_succ] at E9))
  exact bodyPost_ret (results_cell_row rfl _ _ g2 45 (natsC (elemL x6)) (0, 0) _ rfl (E9.row 1 rfl) Try.underlying45 rfl (sizeN Try.sz5e _ (elemL_length _))) rfl (E9.ret _)
end Go.Proofs.Ytpgjcmccfpjmoaa
