/-
  FieldSums, walked: the call returns true. Conditions: none beyond the law's own.
-/
import Derived.Test.YtejingggfbmbjaaFieldM
import Derived.Test.YtejingggfbmbjaaFieldLaws
namespace Go.Proofs.Ytejingggfbmbjaa
open Go.RowKit
set_option linter.unusedVariables false
set_option maxRecDepth 20000

theorem powF_prod (a b n : Nat) : powF (a * b % pF) n = powF a n * powF b n % pF := by
  unfold powF
  rw [← Nat.pow_mod, Nat.mul_pow, Nat.mul_mod]

set_option maxHeartbeats 4000000 in
theorem fieldSums_walk (w : World) (i : List UInt8) (hi : i.length = 32) (j : List UInt8) (hj : j.length = 32) (n : Nat) (hn : n < 18446744073709551616) (k : Nat) (hk : k < 18446744073709551616) :
    Calls Try.prog 9 #[keyV i, keyV j, .int .u64 (n : Int), .int .u64 (k : Int)] w (RetV w (.bool true)) := by
  obtain ⟨ni, hni⟩ : ∃ v, v = numK i := ⟨_, rfl⟩
  have bni : ni < pF := by rw [hni]; exact numK_lt i
  have Li := Lib.hid hi
  obtain ⟨nj, hnj⟩ : ∃ v, v = numK j := ⟨_, rfl⟩
  have bnj : nj < pF := by rw [hnj]; exact numK_lt j
  have Lj := Lib.hid hj
  by_cases hn2 : 4611686018427387904 ≤ n
  · have hgn : decide ((4611686018427387904 : Int) ≤ (n : Int)) = true := by simp only [decide_eq_true_eq]; omega
    have C14 : Hid (∀ w, Calls Try.prog 11 #[] w (RetV w (.bool true))) := fun w => awake_any w
    clear hni hnj bni bnj hi hj hn hk hn2
    have E0 := Lib.hid (Env.start w)
    go_enter Try.func9, Try.ntmps9
    go_wp2_with (first
      | ((with_reducible refine wpE_box (o := ⟨some 4, _, _, _, _, _⟩) rfl 23 (.tmp 0) rfl (keyC (i)) (by with_unfolding_all rfl) E0.out ?_); intro g1 w1 T1; have E1 := Lib.hid T1; clear T1)
      | ((with_reducible refine wpE_box (o := ⟨some 5, _, _, _, _, _⟩) rfl 23 (.tmp 1) rfl (keyC (j)) (by with_unfolding_all rfl) E1.out ?_); intro g2 w2 T2; have E2 := Lib.hid T2; clear T2))
    refine (C14.out _).mono ?_
    rintro e w3 ⟨rfl, b3⟩
    have E3 := Lib.hid (E2.out.call b3)
    clear b3 E2
    go_wp2_with fail
    go_ret
    exact E3.out.ret _
  by_cases hk2 : 4611686018427387904 ≤ k
  · have hgn : decide ((4611686018427387904 : Int) ≤ (n : Int)) = false := by simp only [decide_eq_false_iff_not]; omega
    have hgk : decide ((4611686018427387904 : Int) ≤ (k : Int)) = true := by simp only [decide_eq_true_eq]; omega
    have C14 : Hid (∀ w, Calls Try.prog 11 #[] w (RetV w (.bool true))) := fun w => awake_any w
    clear hni hnj bni bnj hi hj hn hk hn2 hk2
    have E0 := Lib.hid (Env.start w)
    go_enter Try.func9, Try.ntmps9
    go_wp2_with (first
      | ((with_reducible refine wpE_box (o := ⟨some 4, _, _, _, _, _⟩) rfl 23 (.tmp 0) rfl (keyC (i)) (by with_unfolding_all rfl) E0.out ?_); intro g1 w1 T1; have E1 := Lib.hid T1; clear T1)
      | ((with_reducible refine wpE_box (o := ⟨some 5, _, _, _, _, _⟩) rfl 23 (.tmp 1) rfl (keyC (j)) (by with_unfolding_all rfl) E1.out ?_); intro g2 w2 T2; have E2 := Lib.hid T2; clear T2))
    refine (C14.out _).mono ?_
    rintro e w3 ⟨rfl, b3⟩
    have E3 := Lib.hid (E2.out.call b3)
    clear b3 E2
    go_wp2_with fail
    go_ret
    exact E3.out.ret _
  have hgn : decide ((4611686018427387904 : Int) ≤ (n : Int)) = false := by simp only [decide_eq_false_iff_not]; omega
  have hgk : decide ((4611686018427387904 : Int) ≤ (k : Int)) = false := by simp only [decide_eq_false_iff_not]; omega
  obtain ⟨s, hs⟩ : ∃ s, s = n + k := ⟨_, rfl⟩
  have hsum : IntKind.u64.wrap ((n : Int) + (k : Int)) = (s : Int) := by rw [IntKind.wrap_u64]; omega
  have C14 : Hid (∀ w, Calls Try.prog 11 #[] w (RetV w (.bool true))) := fun w => awake_any w
  have C23 : Hid (∀ w, Calls Try.prog 19 #[.agg (keyC (i))] w (RetV w (.agg (natsC (elemL ni))))) := by rw [hni]; exact fun w => of_any i hi w
  have C25 : Hid (∀ w, Calls Try.prog 19 #[.agg (keyC (j))] w (RetV w (.agg (natsC (elemL nj))))) := by rw [hnj]; exact fun w => of_any j hj w
  obtain ⟨v30, hv30⟩ : ∃ v, v = powF ni s := ⟨_, rfl⟩
  have bv30 : v30 < pF := by rw [hv30]; exact powF_lt _ _
  have C30 : Hid (∀ w, Calls Try.prog 28 #[.agg (natsC (elemL ni)), .int .u64 (s : Int)] w (RetV w (.agg (natsC (elemL v30))))) := by rw [hv30]; exact fun w => Power_any ni bni s (by omega) w
  obtain ⟨v33, hv33⟩ : ∃ v, v = powF ni n := ⟨_, rfl⟩
  have bv33 : v33 < pF := by rw [hv33]; exact powF_lt _ _
  have C33 : Hid (∀ w, Calls Try.prog 28 #[.agg (natsC (elemL ni)), .int .u64 (n : Int)] w (RetV w (.agg (natsC (elemL v33))))) := by rw [hv33]; exact fun w => Power_any ni bni n (by omega) w
  obtain ⟨v36, hv36⟩ : ∃ v, v = powF ni k := ⟨_, rfl⟩
  have bv36 : v36 < pF := by rw [hv36]; exact powF_lt _ _
  have C36 : Hid (∀ w, Calls Try.prog 28 #[.agg (natsC (elemL ni)), .int .u64 (k : Int)] w (RetV w (.agg (natsC (elemL v36))))) := by rw [hv36]; exact fun w => Power_any ni bni k (by omega) w
  obtain ⟨v37, hv37⟩ : ∃ v, v = v33 * v36 % pF := ⟨_, rfl⟩
  have bv37 : v37 < pF := by rw [hv37]; exact modF_lt _
  have C37 : Hid (∀ w, Calls Try.prog 22 #[.agg (natsC (elemL v33)), .agg (natsC (elemL v36))] w (RetV w (.agg (natsC (elemL v37))))) := by rw [hv37]; exact fun w => Mul_any v33 v36 bv33 bv36 w
  have q38 : (v30 == v37) = true := by rw [beq_iff_eq, hv30, hv37, hv33, hv36, powF_mul, hs]
  have C38 : Hid (∀ w, Calls Try.prog 26 #[.agg (natsC (elemL v30)), .agg (natsC (elemL v37))] w (RetV w (.bool true))) := fun w => by have h := Equal_any v30 v37 bv30 bv37 w; rwa [q38] at h
  obtain ⟨v41, hv41⟩ : ∃ v, v = ni * nj % pF := ⟨_, rfl⟩
  have bv41 : v41 < pF := by rw [hv41]; exact modF_lt _
  have C41 : Hid (∀ w, Calls Try.prog 22 #[.agg (natsC (elemL ni)), .agg (natsC (elemL nj))] w (RetV w (.agg (natsC (elemL v41))))) := by rw [hv41]; exact fun w => Mul_any ni nj bni bnj w
  obtain ⟨v43, hv43⟩ : ∃ v, v = powF v41 n := ⟨_, rfl⟩
  have bv43 : v43 < pF := by rw [hv43]; exact powF_lt _ _
  have C43 : Hid (∀ w, Calls Try.prog 28 #[.agg (natsC (elemL v41)), .int .u64 (n : Int)] w (RetV w (.agg (natsC (elemL v43))))) := by rw [hv43]; exact fun w => Power_any v41 bv41 n (by omega) w
  obtain ⟨v49, hv49⟩ : ∃ v, v = powF nj n := ⟨_, rfl⟩
  have bv49 : v49 < pF := by rw [hv49]; exact powF_lt _ _
  have C49 : Hid (∀ w, Calls Try.prog 28 #[.agg (natsC (elemL nj)), .int .u64 (n : Int)] w (RetV w (.agg (natsC (elemL v49))))) := by rw [hv49]; exact fun w => Power_any nj bnj n (by omega) w
  obtain ⟨v50, hv50⟩ : ∃ v, v = v33 * v49 % pF := ⟨_, rfl⟩
  have bv50 : v50 < pF := by rw [hv50]; exact modF_lt _
  have C50 : Hid (∀ w, Calls Try.prog 22 #[.agg (natsC (elemL v33)), .agg (natsC (elemL v49))] w (RetV w (.agg (natsC (elemL v50))))) := by rw [hv50]; exact fun w => Mul_any v33 v49 bv33 bv49 w
  have q51 : (v43 == v50) = true := by rw [beq_iff_eq, hv43, hv41, hv50, hv33, hv49]; exact powF_prod _ _ _
  have C51 : Hid (∀ w, Calls Try.prog 26 #[.agg (natsC (elemL v43)), .agg (natsC (elemL v50))] w (RetV w (.bool true))) := fun w => by have h := Equal_any v43 v50 bv43 bv50 w; rwa [q51] at h
  clear hni hnj bni bnj hi hj hs hn hk hn2 hk2 hv30 bv30 hv33 bv33 hv36 bv36 hv37 bv37 q38 hv41 bv41 hv43 bv43 hv49 bv49 hv50 bv50 q51
  have E0 := Lib.hid (Env.start w)
  go_enter Try.func9, Try.ntmps9
  go_wp2_with (first
    | ((with_reducible refine wpE_box (o := ⟨some 4, _, _, _, _, _⟩) rfl 23 (.tmp 0) rfl (keyC (i)) (by with_unfolding_all rfl) E0.out ?_); intro g1 w1 T1; have E1 := Lib.hid T1; clear T1)
    | ((with_reducible refine wpE_box (o := ⟨some 5, _, _, _, _, _⟩) rfl 23 (.tmp 1) rfl (keyC (j)) (by with_unfolding_all rfl) E1.out ?_); intro g2 w2 T2; have E2 := Lib.hid T2; clear T2))
  refine (C14.out _).mono ?_
  rintro e w3 ⟨rfl, b3⟩
  have E3 := Lib.hid (E2.out.call b3)
  clear b3 E2
  go_wp2_with (first
    | (with_reducible refine wpE_load (o := ⟨some 22, _, _, _, _, _⟩) rfl 23 (.tmp 4) rfl 1 g1 23 (keyC (i)) _ (by with_unfolding_all rfl) (by with_unfolding_all rfl) Try.underlying23 rfl (Try.sizeKey _ Li.out) E3.out ?_))
  refine (C23.out _).mono ?_
  rintro e w4 ⟨rfl, b4⟩
  have E4 := Lib.hid (E3.out.call b4)
  clear b4 E3
  go_wp2_with (first
    | ((with_reducible refine wpE_alloc (o := ⟨some 10, _, _, _, _, _⟩) rfl 29 rfl (natsC (zero5)) Try.zero5e E4.out ?_); intro g3 w5 T5; have E5 := Lib.hid T5; clear T5)
    | ((with_reducible refine wpE_store (o := ⟨none, _, _, _, _, _⟩) rfl 29 (.tmp 10) (.tmp 23) rfl 0 g3 29 (natsC (zero5)) (natsC (elemL ni)) (by with_unfolding_all rfl) (by with_unfolding_all rfl) (by with_unfolding_all rfl) (natsC_same zero5_length (elemL_length _)) (sizeN Try.sz5e _ (elemL_length _)) (natsC_one _) E5.out ?_); intro w6 T6; simp only [List.set_cons_zero] at T6; have E6 := Lib.hid T6; clear T6)
    | (with_reducible refine wpE_load (o := ⟨some 24, _, _, _, _, _⟩) rfl 23 (.tmp 5) rfl 1 g2 23 (keyC (j)) _ (by with_unfolding_all rfl) (by with_unfolding_all rfl) Try.underlying23 rfl (Try.sizeKey _ Lj.out) E6.out ?_))
  refine (C25.out _).mono ?_
  rintro e w7 ⟨rfl, b7⟩
  have E7 := Lib.hid (E6.out.call b7)
  clear b7 E6
  go_wp2_with (first
    | ((with_reducible refine wpE_alloc (o := ⟨some 11, _, _, _, _, _⟩) rfl 29 rfl (natsC (zero5)) Try.zero5e E7.out ?_); intro g4 w8 T8; have E8 := Lib.hid T8; clear T8)
    | ((with_reducible refine wpE_store (o := ⟨none, _, _, _, _, _⟩) rfl 29 (.tmp 11) (.tmp 25) rfl 0 g4 29 (natsC (zero5)) (natsC (elemL nj)) (by with_unfolding_all rfl) (by with_unfolding_all rfl) (by with_unfolding_all rfl) (natsC_same zero5_length (elemL_length _)) (sizeN Try.sz5e _ (elemL_length _)) (natsC_one _) E8.out ?_); intro w9 T9; simp only [List.set_cons_zero] at T9; have E9 := Lib.hid T9; clear T9))
  refine region_class _ E9.out.drew (by kernel_rfl) (by kernel_rfl) ?_
  refine qE_load (by rfl) _ (.tmp 10) rfl 1 g3 29 (natsC (elemL ni)) _ rfl rfl Try.underlying29 rfl (sizeN Try.sz5e _ (elemL_length _)) ?_
  simp only [Act.put, List.setIfInBounds_toArray, List.set_cons_zero, List.set_cons_succ]
  refine q_run (by rfl) (v := .int .u64 (n : Int)) (fun W _ => by go_simp) ?_
  simp only [Act.put, List.setIfInBounds_toArray, List.set_cons_zero, List.set_cons_succ]
  refine q_run (by rfl) (v := .int .u64 (k : Int)) (fun W _ => by go_simp) ?_
  simp only [Act.put, List.setIfInBounds_toArray, List.set_cons_zero, List.set_cons_succ]
  refine q_run (by rfl) (v := .int .u64 (s : Int)) (fun W _ => by go_simp) ?_
  simp only [Act.put, List.setIfInBounds_toArray, List.set_cons_zero, List.set_cons_succ]
  refine q_call (by rfl) 28 _ (fun W => by go_simp) (fun W hW => hW.calls (C30.out W)) ?_
  simp only [Act.put, List.setIfInBounds_toArray, List.set_cons_zero, List.set_cons_succ]
  refine qE_load (by rfl) _ (.tmp 10) rfl 1 g3 29 (natsC (elemL ni)) _ rfl rfl Try.underlying29 rfl (sizeN Try.sz5e _ (elemL_length _)) ?_
  simp only [Act.put, List.setIfInBounds_toArray, List.set_cons_zero, List.set_cons_succ]
  refine q_run (by rfl) (v := .int .u64 (n : Int)) (fun W _ => by go_simp) ?_
  simp only [Act.put, List.setIfInBounds_toArray, List.set_cons_zero, List.set_cons_succ]
  refine q_call (by rfl) 28 _ (fun W => by go_simp) (fun W hW => hW.calls (C33.out W)) ?_
  simp only [Act.put, List.setIfInBounds_toArray, List.set_cons_zero, List.set_cons_succ]
  refine qE_load (by rfl) _ (.tmp 10) rfl 1 g3 29 (natsC (elemL ni)) _ rfl rfl Try.underlying29 rfl (sizeN Try.sz5e _ (elemL_length _)) ?_
  simp only [Act.put, List.setIfInBounds_toArray, List.set_cons_zero, List.set_cons_succ]
  refine q_run (by rfl) (v := .int .u64 (k : Int)) (fun W _ => by go_simp) ?_
  simp only [Act.put, List.setIfInBounds_toArray, List.set_cons_zero, List.set_cons_succ]
  refine q_call (by rfl) 28 _ (fun W => by go_simp) (fun W hW => hW.calls (C36.out W)) ?_
  simp only [Act.put, List.setIfInBounds_toArray, List.set_cons_zero, List.set_cons_succ]
  refine q_call (by rfl) 22 _ (fun W => by go_simp) (fun W hW => hW.calls (C37.out W)) ?_
  simp only [Act.put, List.setIfInBounds_toArray, List.set_cons_zero, List.set_cons_succ]
  refine q_call (by rfl) 26 _ (fun W => by go_simp) (fun W hW => hW.calls (C38.out W)) ?_
  simp only [Act.put, List.setIfInBounds_toArray, List.set_cons_zero, List.set_cons_succ]
  refine q_run (by rfl) (v := .bool true) (fun W _ => by go_simp) ?_
  simp only [Act.put, List.setIfInBounds_toArray, List.set_cons_zero, List.set_cons_succ]
  refine wpQuiet_nil ?_
  intro w10 T10
  have E10 := Lib.hid T10
  clear T10 E9
  go_wp2_with fail
  refine region_class _ E10.out.drew (by kernel_rfl) (by kernel_rfl) ?_
  refine qE_load (by rfl) _ (.tmp 10) rfl 1 g3 29 (natsC (elemL ni)) _ rfl rfl Try.underlying29 rfl (sizeN Try.sz5e _ (elemL_length _)) ?_
  simp only [Act.put, List.setIfInBounds_toArray, List.set_cons_zero, List.set_cons_succ]
  refine qE_load (by rfl) _ (.tmp 11) rfl 0 g4 29 (natsC (elemL nj)) _ rfl rfl Try.underlying29 rfl (sizeN Try.sz5e _ (elemL_length _)) ?_
  simp only [Act.put, List.setIfInBounds_toArray, List.set_cons_zero, List.set_cons_succ]
  refine q_call (by rfl) 22 _ (fun W => by go_simp) (fun W hW => hW.calls (C41.out W)) ?_
  simp only [Act.put, List.setIfInBounds_toArray, List.set_cons_zero, List.set_cons_succ]
  refine q_run (by rfl) (v := .int .u64 (n : Int)) (fun W _ => by go_simp) ?_
  simp only [Act.put, List.setIfInBounds_toArray, List.set_cons_zero, List.set_cons_succ]
  refine q_call (by rfl) 28 _ (fun W => by go_simp) (fun W hW => hW.calls (C43.out W)) ?_
  simp only [Act.put, List.setIfInBounds_toArray, List.set_cons_zero, List.set_cons_succ]
  refine qE_load (by rfl) _ (.tmp 10) rfl 1 g3 29 (natsC (elemL ni)) _ rfl rfl Try.underlying29 rfl (sizeN Try.sz5e _ (elemL_length _)) ?_
  simp only [Act.put, List.setIfInBounds_toArray, List.set_cons_zero, List.set_cons_succ]
  refine q_run (by rfl) (v := .int .u64 (n : Int)) (fun W _ => by go_simp) ?_
  simp only [Act.put, List.setIfInBounds_toArray, List.set_cons_zero, List.set_cons_succ]
  refine q_call (by rfl) 28 _ (fun W => by go_simp) (fun W hW => hW.calls (C33.out W)) ?_
  simp only [Act.put, List.setIfInBounds_toArray, List.set_cons_zero, List.set_cons_succ]
  refine qE_load (by rfl) _ (.tmp 11) rfl 0 g4 29 (natsC (elemL nj)) _ rfl rfl Try.underlying29 rfl (sizeN Try.sz5e _ (elemL_length _)) ?_
  simp only [Act.put, List.setIfInBounds_toArray, List.set_cons_zero, List.set_cons_succ]
  refine q_run (by rfl) (v := .int .u64 (n : Int)) (fun W _ => by go_simp) ?_
  simp only [Act.put, List.setIfInBounds_toArray, List.set_cons_zero, List.set_cons_succ]
  refine q_call (by rfl) 28 _ (fun W => by go_simp) (fun W hW => hW.calls (C49.out W)) ?_
  simp only [Act.put, List.setIfInBounds_toArray, List.set_cons_zero, List.set_cons_succ]
  refine q_call (by rfl) 22 _ (fun W => by go_simp) (fun W hW => hW.calls (C50.out W)) ?_
  simp only [Act.put, List.setIfInBounds_toArray, List.set_cons_zero, List.set_cons_succ]
  refine q_call (by rfl) 26 _ (fun W => by go_simp) (fun W hW => hW.calls (C51.out W)) ?_
  simp only [Act.put, List.setIfInBounds_toArray, List.set_cons_zero, List.set_cons_succ]
  refine q_run (by rfl) (v := .bool true) (fun W _ => by go_simp) ?_
  simp only [Act.put, List.setIfInBounds_toArray, List.set_cons_zero, List.set_cons_succ]
  refine wpQuiet_nil ?_
  intro w11 T11
  have E11 := Lib.hid T11
  clear T11 E10
  go_wp2_with fail
  go_ret
  exact E11.out.ret _
end Go.Proofs.Ytejingggfbmbjaa
