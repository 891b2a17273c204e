/-
  Texts that belong together, merged: LadderB, LadderC. Conditions: as each theorem names them.
-/
import Derived.Test.YthipdfmaaeoijaaQEpcAG
section
namespace Go.Proofs.Ythipdfmaaeoijaa
open Go.RowKit
set_option linter.unusedVariables false
set_option maxRecDepth 20000

set_option maxHeartbeats 1000000 in
theorem lsq_any (a : Nat) (ba : a < pF) (w : World) : Calls Try.prog 57 #[.agg (natsC (elemL a))] w (RetV w (.agg (natsC (elemL (a * a % pF))))) := by
  obtain ⟨v5, hv5⟩ : ∃ v, v = a * a % pF := ⟨_, rfl⟩
  have bv5 : v5 < pF := by rw [hv5]; exact modF_lt _
  have C5 : Hid (∀ w, Calls Try.prog 37 #[.agg (natsC (elemL a)), .agg (natsC (elemL a))] w (RetV w (.agg (natsC (elemL v5))))) := by rw [hv5]; exact fun w => Mul_any a a ba ba w
  have HR : Hid ((natsC (elemL (a * a % pF))) = (natsC (elemL v5))) := by show _ = _; rw [hv5]
  clear hv5 bv5
  have E0 := Lib.hid (Env.start w)
  go_enter Try.func57, Try.ntmps57
  go_wp2_with (first
    | ((with_reducible refine wpE_box (o := ⟨some 1, _, _, _, _, _⟩) rfl 59 (.tmp 0) rfl (natsC (elemL a)) (by with_unfolding_all rfl) E0.out ?_); intro g1 w1 T1; have E1 := Lib.hid T1; clear T1)
    | ((with_reducible refine wpE_alloc (o := ⟨some 2, _, _, _, _, _⟩) rfl 59 rfl (natsC (zero5)) Try.zero5e E1.out ?_); intro g2 w2 T2; have E2 := Lib.hid T2; clear T2)
    | (with_reducible refine wpE_load (o := ⟨some 3, _, _, _, _, _⟩) rfl 59 (.tmp 1) rfl 1 g1 59 (natsC (elemL a)) _ (by with_unfolding_all rfl) (by with_unfolding_all rfl) Try.underlying59 rfl (sizeN Try.sz5e _ (elemL_length _)) E2.out ?_)
    | (with_reducible refine wpE_load (o := ⟨some 4, _, _, _, _, _⟩) rfl 59 (.tmp 1) rfl 1 g1 59 (natsC (elemL a)) _ (by with_unfolding_all rfl) (by with_unfolding_all rfl) Try.underlying59 rfl (sizeN Try.sz5e _ (elemL_length _)) E2.out ?_))
  refine (C5.out _).mono ?_
  rintro e w3 ⟨rfl, b3⟩
  have E3 := Lib.hid (E2.out.call b3)
  clear b3 E2
  go_wp2_with (first
    | ((with_reducible refine wpE_store (o := ⟨none, _, _, _, _, _⟩) rfl 59 (.tmp 2) (.tmp 5) rfl 0 g2 59 (natsC (zero5)) (natsC (elemL v5)) (by with_unfolding_all rfl) (by with_unfolding_all rfl) (by with_unfolding_all rfl) (natsC_same zero5_length (elemL_length _)) (sizeN Try.sz5e _ (elemL_length _)) (natsC_one _) E3.out ?_); intro w4 T4; simp only [List.set_cons_zero] at T4; have E4 := Lib.hid T4; clear T4))
  refine bodyPost_ret (results_cell_row rfl _ _ g2 59 (natsC (elemL v5)) (0, 0) _ rfl (E4.out.row 0 rfl) Try.underlying59 rfl (sizeN Try.sz5e _ (elemL_length _))) rfl ⟨?_, E4.out.below⟩
  rw [HR.out]

/-- The rungs, their places changed or not. -/
def pickN (b : Bool) (x y : Nat) : Nat := if b then x else y
theorem pickN_lt {b : Bool} {x y : Nat} (hx : x < pF) (hy : y < pF) : pickN b x y < pF := by unfold pickN; split <;> assumption
set_option maxHeartbeats 2000000 in
theorem swapped_any (a b c d : Nat) (ba : a < pF) (bb : b < pF) (bc : c < pF) (bd : d < pF) (s : Bool) (w : World) :
    Calls Try.prog 35 #[.agg (natsC (rungL a b c d)), .bool s] w (RetV w (.agg (natsC (rungL (pickN s c a) (pickN s d b) (pickN s a c) (pickN s b d))))) := by
  obtain ⟨v10, hv10⟩ : ∃ v, v = pickN s c a := ⟨_, rfl⟩
  have bv10 : v10 < pF := by rw [hv10]; exact pickN_lt (by assumption) (by assumption)
  have C10 : Hid (∀ w, Calls Try.prog 54 #[.bool s, .agg (natsC (elemL c)), .agg (natsC (elemL a))] w (RetV w (.agg (natsC (elemL v10))))) := by rw [hv10]; exact fun w => Choose_any s c a bc ba w
  obtain ⟨v16, hv16⟩ : ∃ v, v = pickN s d b := ⟨_, rfl⟩
  have bv16 : v16 < pF := by rw [hv16]; exact pickN_lt (by assumption) (by assumption)
  have C16 : Hid (∀ w, Calls Try.prog 54 #[.bool s, .agg (natsC (elemL d)), .agg (natsC (elemL b))] w (RetV w (.agg (natsC (elemL v16))))) := by rw [hv16]; exact fun w => Choose_any s d b bd bb w
  obtain ⟨v22, hv22⟩ : ∃ v, v = pickN s a c := ⟨_, rfl⟩
  have bv22 : v22 < pF := by rw [hv22]; exact pickN_lt (by assumption) (by assumption)
  have C22 : Hid (∀ w, Calls Try.prog 54 #[.bool s, .agg (natsC (elemL a)), .agg (natsC (elemL c))] w (RetV w (.agg (natsC (elemL v22))))) := by rw [hv22]; exact fun w => Choose_any s a c ba bc w
  obtain ⟨v28, hv28⟩ : ∃ v, v = pickN s b d := ⟨_, rfl⟩
  have bv28 : v28 < pF := by rw [hv28]; exact pickN_lt (by assumption) (by assumption)
  have C28 : Hid (∀ w, Calls Try.prog 54 #[.bool s, .agg (natsC (elemL b)), .agg (natsC (elemL d))] w (RetV w (.agg (natsC (elemL v28))))) := by rw [hv28]; exact fun w => Choose_any s b d bb bd w
  have HR : Hid (natsC (rungL (pickN s c a) (pickN s d b) (pickN s a c) (pickN s b d)) = (natsC (rungL v10 v16 v22 v28))) := by show _ = _; rw [hv10, hv16, hv22, hv28]
  clear hv10 bv10 hv16 bv16 hv22 bv22 hv28 bv28
  have E0 := Lib.hid (Env.start w)
  go_enter Try.func35, Try.ntmps35
  go_wp2_with (first
    | ((with_reducible refine wpE_box (o := ⟨some 2, _, _, _, _, _⟩) rfl 77 (.tmp 0) rfl (natsC (rungL a b c d)) (by with_unfolding_all rfl) E0.out ?_); intro g1 w1 T1; have E1 := Lib.hid T1; clear T1)
    | ((with_reducible refine wpE_alloc (o := ⟨some 4, _, _, _, _, _⟩) rfl 77 rfl (natsC (rungL 0 0 0 0)) Try.zeroR E1.out ?_); intro g2 w2 T2; have E2 := Lib.hid T2; clear T2))
  refine region_class_tail 25 _ E2.out.drew (by kernel_rfl) (by kernel_rfl) ?_
  simp only [List.take_succ_cons, List.take_zero, List.drop_succ_cons, List.drop_zero]
  refine q_run (by rfl) (v := .bool s) (fun W _ => by go_simp) ?_
  simp only [Act.put, List.setIfInBounds_toArray, List.set_cons_zero, List.set_cons_succ]
  refine q_run (by rfl) (v := .pointer (some ⟨g1, 10, none⟩)) (fun W _ => by go_simp) ?_
  simp only [Act.put, List.setIfInBounds_toArray, List.set_cons_zero, List.set_cons_succ]
  refine qE_part (by rfl) _ (.tmp 6) rfl 1 g1 10 77 (rungL a b c d) (elemL c) _ rfl rfl (rungL_2 _ _ _ _) Try.underlying59 rfl (by rw [elemL_length]; exact Try.sz5e) ?_
  simp only [Act.put, List.setIfInBounds_toArray, List.set_cons_zero, List.set_cons_succ]
  refine q_run (by rfl) (v := .pointer (some ⟨g1, 0, none⟩)) (fun W _ => by go_simp) ?_
  simp only [Act.put, List.setIfInBounds_toArray, List.set_cons_zero, List.set_cons_succ]
  refine qE_part (by rfl) _ (.tmp 8) rfl 1 g1 0 77 (rungL a b c d) (elemL a) _ rfl rfl (rungL_0 _ _ _ _) Try.underlying59 rfl (by rw [elemL_length]; exact Try.sz5e) ?_
  simp only [Act.put, List.setIfInBounds_toArray, List.set_cons_zero, List.set_cons_succ]
  refine q_call (by rfl) 54 _ (fun W => by go_simp) (fun W hW => hW.calls (C10.out W)) ?_
  simp only [Act.put, List.setIfInBounds_toArray, List.set_cons_zero, List.set_cons_succ]
  refine q_run (by rfl) (v := .bool s) (fun W _ => by go_simp) ?_
  simp only [Act.put, List.setIfInBounds_toArray, List.set_cons_zero, List.set_cons_succ]
  refine q_run (by rfl) (v := .pointer (some ⟨g1, 15, none⟩)) (fun W _ => by go_simp) ?_
  simp only [Act.put, List.setIfInBounds_toArray, List.set_cons_zero, List.set_cons_succ]
  refine qE_part (by rfl) _ (.tmp 12) rfl 1 g1 15 77 (rungL a b c d) (elemL d) _ rfl rfl (rungL_3 _ _ _ _) Try.underlying59 rfl (by rw [elemL_length]; exact Try.sz5e) ?_
  simp only [Act.put, List.setIfInBounds_toArray, List.set_cons_zero, List.set_cons_succ]
  refine q_run (by rfl) (v := .pointer (some ⟨g1, 5, none⟩)) (fun W _ => by go_simp) ?_
  simp only [Act.put, List.setIfInBounds_toArray, List.set_cons_zero, List.set_cons_succ]
  refine qE_part (by rfl) _ (.tmp 14) rfl 1 g1 5 77 (rungL a b c d) (elemL b) _ rfl rfl (rungL_1 _ _ _ _) Try.underlying59 rfl (by rw [elemL_length]; exact Try.sz5e) ?_
  simp only [Act.put, List.setIfInBounds_toArray, List.set_cons_zero, List.set_cons_succ]
  refine q_call (by rfl) 54 _ (fun W => by go_simp) (fun W hW => hW.calls (C16.out W)) ?_
  simp only [Act.put, List.setIfInBounds_toArray, List.set_cons_zero, List.set_cons_succ]
  refine q_run (by rfl) (v := .bool s) (fun W _ => by go_simp) ?_
  simp only [Act.put, List.setIfInBounds_toArray, List.set_cons_zero, List.set_cons_succ]
  refine q_run (by rfl) (v := .pointer (some ⟨g1, 0, none⟩)) (fun W _ => by go_simp) ?_
  simp only [Act.put, List.setIfInBounds_toArray, List.set_cons_zero, List.set_cons_succ]
  refine qE_part (by rfl) _ (.tmp 18) rfl 1 g1 0 77 (rungL a b c d) (elemL a) _ rfl rfl (rungL_0 _ _ _ _) Try.underlying59 rfl (by rw [elemL_length]; exact Try.sz5e) ?_
  simp only [Act.put, List.setIfInBounds_toArray, List.set_cons_zero, List.set_cons_succ]
  refine q_run (by rfl) (v := .pointer (some ⟨g1, 10, none⟩)) (fun W _ => by go_simp) ?_
  simp only [Act.put, List.setIfInBounds_toArray, List.set_cons_zero, List.set_cons_succ]
  refine qE_part (by rfl) _ (.tmp 20) rfl 1 g1 10 77 (rungL a b c d) (elemL c) _ rfl rfl (rungL_2 _ _ _ _) Try.underlying59 rfl (by rw [elemL_length]; exact Try.sz5e) ?_
  simp only [Act.put, List.setIfInBounds_toArray, List.set_cons_zero, List.set_cons_succ]
  refine q_call (by rfl) 54 _ (fun W => by go_simp) (fun W hW => hW.calls (C22.out W)) ?_
  simp only [Act.put, List.setIfInBounds_toArray, List.set_cons_zero, List.set_cons_succ]
  refine q_run (by rfl) (v := .bool s) (fun W _ => by go_simp) ?_
  simp only [Act.put, List.setIfInBounds_toArray, List.set_cons_zero, List.set_cons_succ]
  refine q_run (by rfl) (v := .pointer (some ⟨g1, 5, none⟩)) (fun W _ => by go_simp) ?_
  simp only [Act.put, List.setIfInBounds_toArray, List.set_cons_zero, List.set_cons_succ]
  refine qE_part (by rfl) _ (.tmp 24) rfl 1 g1 5 77 (rungL a b c d) (elemL b) _ rfl rfl (rungL_1 _ _ _ _) Try.underlying59 rfl (by rw [elemL_length]; exact Try.sz5e) ?_
  simp only [Act.put, List.setIfInBounds_toArray, List.set_cons_zero, List.set_cons_succ]
  refine q_run (by rfl) (v := .pointer (some ⟨g1, 15, none⟩)) (fun W _ => by go_simp) ?_
  simp only [Act.put, List.setIfInBounds_toArray, List.set_cons_zero, List.set_cons_succ]
  refine qE_part (by rfl) _ (.tmp 26) rfl 1 g1 15 77 (rungL a b c d) (elemL d) _ rfl rfl (rungL_3 _ _ _ _) Try.underlying59 rfl (by rw [elemL_length]; exact Try.sz5e) ?_
  simp only [Act.put, List.setIfInBounds_toArray, List.set_cons_zero, List.set_cons_succ]
  refine q_call (by rfl) 54 _ (fun W => by go_simp) (fun W hW => hW.calls (C28.out W)) ?_
  simp only [Act.put, List.setIfInBounds_toArray, List.set_cons_zero, List.set_cons_succ]
  refine q_run (by rfl) (v := .agg (natsC (rungL v10 v16 v22 v28))) (fun W _ => run_buildR (.tmp 10) (.tmp 16) (.tmp 22) (.tmp 28) rfl v10 v16 v22 v28 rfl rfl rfl rfl) ?_
  simp only [Act.put, List.setIfInBounds_toArray, List.set_cons_zero, List.set_cons_succ]
  refine wpQuiet_nil ?_
  intro w3 T3
  have E3 := Lib.hid T3
  clear T3 E2
  go_wp2_with (first
    | ((with_reducible refine wpE_store (o := ⟨none, _, _, _, _, _⟩) rfl 77 (.tmp 4) (.tmp 29) rfl 0 g2 77 (natsC (rungL 0 0 0 0)) (natsC (rungL v10 v16 v22 v28)) (by with_unfolding_all rfl) (by with_unfolding_all rfl) (by with_unfolding_all rfl) (natsC_same (rungL_length _ _ _ _) (rungL_length _ _ _ _)) (sizeN Try.szR _ (rungL_length _ _ _ _)) (natsC_one _) E3.out ?_); intro w4 T4; simp only [List.set_cons_zero] at T4; have E4 := Lib.hid T4; clear T4))
  refine bodyPost_ret (results_cell_row rfl _ _ g2 77 (natsC (rungL v10 v16 v22 v28)) (0, 0) _ rfl (E4.out.row 0 rfl) Try.underlying77 rfl (sizeN Try.szR _ (rungL_length _ _ _ _))) rfl ⟨?_, E4.out.below⟩
  rw [HR.out]

/-- One step of the ladder. -/
def next2 (a b : Nat) : Nat := ((a + b) % pF * ((a + b) % pF) % pF) * (subF a b * subF a b % pF) % pF
def eN (a b : Nat) : Nat := subF ((a + b) % pF * ((a + b) % pF) % pF) (subF a b * subF a b % pF)
def nextz2 (a b : Nat) : Nat := eN a b * (((a + b) % pF * ((a + b) % pF) % pF + 121665 * eN a b % pF) % pF) % pF
def dN (a b c d : Nat) : Nat := subF c d * ((a + b) % pF) % pF
def cN (a b c d : Nat) : Nat := (c + d) % pF * subF a b % pF
def next3 (a b c d : Nat) : Nat := (dN a b c d + cN a b c d) % pF * ((dN a b c d + cN a b c d) % pF) % pF
def nextz3 (u a b c d : Nat) : Nat := u * (subF (dN a b c d) (cN a b c d) * subF (dN a b c d) (cN a b c d) % pF) % pF
set_option maxHeartbeats 4000000 in
theorem next_any (a b c d u : Nat) (ba : a < pF) (bb : b < pF) (bc : c < pF) (bd : d < pF) (bu : u < pF) (w : World) :
    Calls Try.prog 36 #[.agg (natsC (rungL a b c d)), .agg (natsC (elemL u))] w (RetV w (.agg (natsC (rungL (next2 a b) (nextz2 a b) (next3 a b c d) (nextz3 u a b c d))))) := by
  obtain ⟨v16, hv16⟩ : ∃ v, v = (a + b) % pF := ⟨_, rfl⟩
  have bv16 : v16 < pF := by rw [hv16]; exact modF_lt _
  have C16 : Hid (∀ w, Calls Try.prog 55 #[.agg (natsC (elemL a)), .agg (natsC (elemL b))] w (RetV w (.agg (natsC (elemL v16))))) := by rw [hv16]; exact fun w => Add_any a b ba bb w
  obtain ⟨v21, hv21⟩ : ∃ v, v = subF a b := ⟨_, rfl⟩
  have bv21 : v21 < pF := by rw [hv21]; exact subF_lt _ _
  have C21 : Hid (∀ w, Calls Try.prog 56 #[.agg (natsC (elemL a)), .agg (natsC (elemL b))] w (RetV w (.agg (natsC (elemL v21))))) := by rw [hv21]; exact fun w => Sub_any a b ba bb w
  obtain ⟨v23, hv23⟩ : ∃ v, v = v16 * v16 % pF := ⟨_, rfl⟩
  have bv23 : v23 < pF := by rw [hv23]; exact modF_lt _
  have C23 : Hid (∀ w, Calls Try.prog 57 #[.agg (natsC (elemL v16))] w (RetV w (.agg (natsC (elemL v23))))) := by rw [hv23]; exact fun w => lsq_any v16 bv16 w
  obtain ⟨v25, hv25⟩ : ∃ v, v = v21 * v21 % pF := ⟨_, rfl⟩
  have bv25 : v25 < pF := by rw [hv25]; exact modF_lt _
  have C25 : Hid (∀ w, Calls Try.prog 57 #[.agg (natsC (elemL v21))] w (RetV w (.agg (natsC (elemL v25))))) := by rw [hv25]; exact fun w => lsq_any v21 bv21 w
  obtain ⟨v28, hv28⟩ : ∃ v, v = subF v23 v25 := ⟨_, rfl⟩
  have bv28 : v28 < pF := by rw [hv28]; exact subF_lt _ _
  have C28 : Hid (∀ w, Calls Try.prog 56 #[.agg (natsC (elemL v23)), .agg (natsC (elemL v25))] w (RetV w (.agg (natsC (elemL v28))))) := by rw [hv28]; exact fun w => Sub_any v23 v25 bv23 bv25 w
  obtain ⟨v33, hv33⟩ : ∃ v, v = subF c d := ⟨_, rfl⟩
  have bv33 : v33 < pF := by rw [hv33]; exact subF_lt _ _
  have C33 : Hid (∀ w, Calls Try.prog 56 #[.agg (natsC (elemL c)), .agg (natsC (elemL d))] w (RetV w (.agg (natsC (elemL v33))))) := by rw [hv33]; exact fun w => Sub_any c d bc bd w
  obtain ⟨v35, hv35⟩ : ∃ v, v = v33 * v16 % pF := ⟨_, rfl⟩
  have bv35 : v35 < pF := by rw [hv35]; exact modF_lt _
  have C35 : Hid (∀ w, Calls Try.prog 37 #[.agg (natsC (elemL v33)), .agg (natsC (elemL v16))] w (RetV w (.agg (natsC (elemL v35))))) := by rw [hv35]; exact fun w => Mul_any v33 v16 bv33 bv16 w
  obtain ⟨v40, hv40⟩ : ∃ v, v = (c + d) % pF := ⟨_, rfl⟩
  have bv40 : v40 < pF := by rw [hv40]; exact modF_lt _
  have C40 : Hid (∀ w, Calls Try.prog 55 #[.agg (natsC (elemL c)), .agg (natsC (elemL d))] w (RetV w (.agg (natsC (elemL v40))))) := by rw [hv40]; exact fun w => Add_any c d bc bd w
  obtain ⟨v42, hv42⟩ : ∃ v, v = v40 * v21 % pF := ⟨_, rfl⟩
  have bv42 : v42 < pF := by rw [hv42]; exact modF_lt _
  have C42 : Hid (∀ w, Calls Try.prog 37 #[.agg (natsC (elemL v40)), .agg (natsC (elemL v21))] w (RetV w (.agg (natsC (elemL v42))))) := by rw [hv42]; exact fun w => Mul_any v40 v21 bv40 bv21 w
  obtain ⟨v45, hv45⟩ : ∃ v, v = v23 * v25 % pF := ⟨_, rfl⟩
  have bv45 : v45 < pF := by rw [hv45]; exact modF_lt _
  have C45 : Hid (∀ w, Calls Try.prog 37 #[.agg (natsC (elemL v23)), .agg (natsC (elemL v25))] w (RetV w (.agg (natsC (elemL v45))))) := by rw [hv45]; exact fun w => Mul_any v23 v25 bv23 bv25 w
  obtain ⟨v48, hv48⟩ : ∃ v, v = 121665 := ⟨_, rfl⟩
  have bv48 : v48 < pF := by rw [hv48]; exact (by decide)
  have C48 : Hid (∀ w, Calls Try.prog 33 #[.int .u64 121665] w (RetV w (.agg (natsC (elemL v48))))) := by rw [hv48]; exact fun w => Small_any 121665 (by decide) w
  obtain ⟨v50, hv50⟩ : ∃ v, v = v48 * v28 % pF := ⟨_, rfl⟩
  have bv50 : v50 < pF := by rw [hv50]; exact modF_lt _
  have C50 : Hid (∀ w, Calls Try.prog 37 #[.agg (natsC (elemL v48)), .agg (natsC (elemL v28))] w (RetV w (.agg (natsC (elemL v50))))) := by rw [hv50]; exact fun w => Mul_any v48 v28 bv48 bv28 w
  obtain ⟨v51, hv51⟩ : ∃ v, v = (v23 + v50) % pF := ⟨_, rfl⟩
  have bv51 : v51 < pF := by rw [hv51]; exact modF_lt _
  have C51 : Hid (∀ w, Calls Try.prog 55 #[.agg (natsC (elemL v23)), .agg (natsC (elemL v50))] w (RetV w (.agg (natsC (elemL v51))))) := by rw [hv51]; exact fun w => Add_any v23 v50 bv23 bv50 w
  obtain ⟨v52, hv52⟩ : ∃ v, v = v28 * v51 % pF := ⟨_, rfl⟩
  have bv52 : v52 < pF := by rw [hv52]; exact modF_lt _
  have C52 : Hid (∀ w, Calls Try.prog 37 #[.agg (natsC (elemL v28)), .agg (natsC (elemL v51))] w (RetV w (.agg (natsC (elemL v52))))) := by rw [hv52]; exact fun w => Mul_any v28 v51 bv28 bv51 w
  obtain ⟨v55, hv55⟩ : ∃ v, v = (v35 + v42) % pF := ⟨_, rfl⟩
  have bv55 : v55 < pF := by rw [hv55]; exact modF_lt _
  have C55 : Hid (∀ w, Calls Try.prog 55 #[.agg (natsC (elemL v35)), .agg (natsC (elemL v42))] w (RetV w (.agg (natsC (elemL v55))))) := by rw [hv55]; exact fun w => Add_any v35 v42 bv35 bv42 w
  obtain ⟨v56, hv56⟩ : ∃ v, v = v55 * v55 % pF := ⟨_, rfl⟩
  have bv56 : v56 < pF := by rw [hv56]; exact modF_lt _
  have C56 : Hid (∀ w, Calls Try.prog 57 #[.agg (natsC (elemL v55))] w (RetV w (.agg (natsC (elemL v56))))) := by rw [hv56]; exact fun w => lsq_any v55 bv55 w
  obtain ⟨v60, hv60⟩ : ∃ v, v = subF v35 v42 := ⟨_, rfl⟩
  have bv60 : v60 < pF := by rw [hv60]; exact subF_lt _ _
  have C60 : Hid (∀ w, Calls Try.prog 56 #[.agg (natsC (elemL v35)), .agg (natsC (elemL v42))] w (RetV w (.agg (natsC (elemL v60))))) := by rw [hv60]; exact fun w => Sub_any v35 v42 bv35 bv42 w
  obtain ⟨v61, hv61⟩ : ∃ v, v = v60 * v60 % pF := ⟨_, rfl⟩
  have bv61 : v61 < pF := by rw [hv61]; exact modF_lt _
  have C61 : Hid (∀ w, Calls Try.prog 57 #[.agg (natsC (elemL v60))] w (RetV w (.agg (natsC (elemL v61))))) := by rw [hv61]; exact fun w => lsq_any v60 bv60 w
  obtain ⟨v62, hv62⟩ : ∃ v, v = u * v61 % pF := ⟨_, rfl⟩
  have bv62 : v62 < pF := by rw [hv62]; exact modF_lt _
  have C62 : Hid (∀ w, Calls Try.prog 37 #[.agg (natsC (elemL u)), .agg (natsC (elemL v61))] w (RetV w (.agg (natsC (elemL v62))))) := by rw [hv62]; exact fun w => Mul_any u v61 bu bv61 w
  have HR : Hid (natsC (rungL (next2 a b) (nextz2 a b) (next3 a b c d) (nextz3 u a b c d)) = (natsC (rungL v45 v52 v56 v62))) := by show _ = _; simp only [next2, nextz2, next3, nextz3, eN, dN, cN, hv16, hv21, hv23, hv25, hv28, hv33, hv35, hv40, hv42, hv45, hv48, hv50, hv51, hv52, hv55, hv56, hv60, hv61, hv62]
  clear hv16 bv16 hv21 bv21 hv23 bv23 hv25 bv25 hv28 bv28 hv33 bv33 hv35 bv35 hv40 bv40 hv42 bv42 hv45 bv45 hv48 bv48 hv50 bv50 hv51 bv51 hv52 bv52 hv55 bv55 hv56 bv56 hv60 bv60 hv61 bv61 hv62 bv62
  have E0 := Lib.hid (Env.start w)
  go_enter Try.func36, Try.ntmps36
  go_wp2_with (first
    | ((with_reducible refine wpE_box (o := ⟨some 2, _, _, _, _, _⟩) rfl 77 (.tmp 0) rfl (natsC (rungL a b c d)) (by with_unfolding_all rfl) E0.out ?_); intro g1 w1 T1; have E1 := Lib.hid T1; clear T1)
    | ((with_reducible refine wpE_box (o := ⟨some 3, _, _, _, _, _⟩) rfl 59 (.tmp 1) rfl (natsC (elemL u)) (by with_unfolding_all rfl) E1.out ?_); intro g2 w2 T2; have E2 := Lib.hid T2; clear T2)
    | ((with_reducible refine wpE_alloc (o := ⟨some 4, _, _, _, _, _⟩) rfl 77 rfl (natsC (rungL 0 0 0 0)) Try.zeroR E2.out ?_); intro g3 w3 T3; have E3 := Lib.hid T3; clear T3))
  refine region_state (N := 64) E3.out (by kernel_rfl) [(0, .pointer (some ⟨g1, 0, none⟩)), (1, .agg (natsC (elemL a))), (2, .pointer (some ⟨g1, 5, none⟩)), (3, .agg (natsC (elemL b))), (4, .agg (natsC (elemL v16))), (5, .pointer (some ⟨g1, 0, none⟩)), (6, .agg (natsC (elemL a))), (7, .pointer (some ⟨g1, 5, none⟩)), (8, .agg (natsC (elemL b))), (9, .agg (natsC (elemL v21)))] [⟨10, 12, 59, (natsC (zero5)), (natsC (elemL v16))⟩, ⟨11, 13, 59, (natsC (zero5)), (natsC (elemL v21))⟩] [12, 13, 14, 15, 16, 17, 18, 19, 20, 21, 5, 6] (by kernel_rfl) (by kernel_rfl) (by rfl) ⟨?_, ?_, ?_, ?_, ?_, ?_, ?_, ?_, ?_, ?_, trivial⟩ ⟨?_, ?_, trivial⟩ ?_
  · refine valE_run 0 _ (fun o ho ac wc h1 h2 hE => ?_)
    obtain rfl := Option.some.inj ho
    have e2 : ac.tmps.getD 2 undef = .pointer (some ⟨g1, 0, none⟩) := h2 2 (by kernel_rfl)
    unfold execOp
    simp only [Act.eval]
    go_simp
  · refine valE_run 1 _ (fun o ho ac wc h1 h2 hE => ?_)
    obtain rfl := Option.some.inj ho
    have e12 : ac.tmps.getD 12 undef = .pointer (some ⟨g1, 0, none⟩) := h1 0 _ rfl (by kernel_rfl) 12 rfl
    exact run_part _ (.tmp 12) rfl g1 0 e12 77 (rungL a b c d) (elemL a) _ (hE.row 2 rfl) (rungL_0 _ _ _ _) Try.underlying59 rfl (by rw [elemL_length]; exact Try.sz5e)
  · refine valE_run 2 _ (fun o ho ac wc h1 h2 hE => ?_)
    obtain rfl := Option.some.inj ho
    have e2 : ac.tmps.getD 2 undef = .pointer (some ⟨g1, 0, none⟩) := h2 2 (by kernel_rfl)
    unfold execOp
    simp only [Act.eval]
    go_simp
  · refine valE_run 3 _ (fun o ho ac wc h1 h2 hE => ?_)
    obtain rfl := Option.some.inj ho
    have e14 : ac.tmps.getD 14 undef = .pointer (some ⟨g1, 5, none⟩) := h1 2 _ rfl (by kernel_rfl) 14 rfl
    exact run_part _ (.tmp 14) rfl g1 5 e14 77 (rungL a b c d) (elemL b) _ (hE.row 2 rfl) (rungL_1 _ _ _ _) Try.underlying59 rfl (by rw [elemL_length]; exact Try.sz5e)
  · refine valE_call 4 _ 55 #[.agg (natsC (elemL a)), .agg (natsC (elemL b))] (fun w => C16.out w) (fun o ho ac wc h1 h2 => ?_)
    obtain rfl := Option.some.inj ho
    have e13 : ac.tmps.getD 13 undef = .agg (natsC (elemL a)) := h1 1 _ rfl (by kernel_rfl) 13 rfl
    have e15 : ac.tmps.getD 15 undef = .agg (natsC (elemL b)) := h1 3 _ rfl (by kernel_rfl) 15 rfl
    exact run_call_func 55 _ _ rfl _ (by simp [Act.eval, e13, e15]) (by go_simp)
  · refine valE_run 5 _ (fun o ho ac wc h1 h2 hE => ?_)
    obtain rfl := Option.some.inj ho
    have e2 : ac.tmps.getD 2 undef = .pointer (some ⟨g1, 0, none⟩) := h2 2 (by kernel_rfl)
    unfold execOp
    simp only [Act.eval]
    go_simp
  · refine valE_run 6 _ (fun o ho ac wc h1 h2 hE => ?_)
    obtain rfl := Option.some.inj ho
    have e17 : ac.tmps.getD 17 undef = .pointer (some ⟨g1, 0, none⟩) := h1 5 _ rfl (by kernel_rfl) 17 rfl
    exact run_part _ (.tmp 17) rfl g1 0 e17 77 (rungL a b c d) (elemL a) _ (hE.row 2 rfl) (rungL_0 _ _ _ _) Try.underlying59 rfl (by rw [elemL_length]; exact Try.sz5e)
  · refine valE_run 7 _ (fun o ho ac wc h1 h2 hE => ?_)
    obtain rfl := Option.some.inj ho
    have e2 : ac.tmps.getD 2 undef = .pointer (some ⟨g1, 0, none⟩) := h2 2 (by kernel_rfl)
    unfold execOp
    simp only [Act.eval]
    go_simp
  · refine valE_run 8 _ (fun o ho ac wc h1 h2 hE => ?_)
    obtain rfl := Option.some.inj ho
    have e19 : ac.tmps.getD 19 undef = .pointer (some ⟨g1, 5, none⟩) := h1 7 _ rfl (by kernel_rfl) 19 rfl
    exact run_part _ (.tmp 19) rfl g1 5 e19 77 (rungL a b c d) (elemL b) _ (hE.row 2 rfl) (rungL_1 _ _ _ _) Try.underlying59 rfl (by rw [elemL_length]; exact Try.sz5e)
  · refine valE_call 9 _ 56 #[.agg (natsC (elemL a)), .agg (natsC (elemL b))] (fun w => C21.out w) (fun o ho ac wc h1 h2 => ?_)
    obtain rfl := Option.some.inj ho
    have e18 : ac.tmps.getD 18 undef = .agg (natsC (elemL a)) := h1 6 _ rfl (by kernel_rfl) 18 rfl
    have e20 : ac.tmps.getD 20 undef = .agg (natsC (elemL b)) := h1 8 _ rfl (by kernel_rfl) 20 rfl
    exact run_call_func 56 _ _ rfl _ (by simp [Act.eval, e18, e20]) (by go_simp)
  · exact ⟨⟨_, rfl, rfl, Try.zero5e⟩, _, 5, 16, 4, rfl, rfl, by kernel_rfl, by kernel_rfl, natsC_same zero5_length (elemL_length _), (sizeN Try.sz5e _ (elemL_length _)), natsC_one _, by kernel_rfl, rfl⟩
  · exact ⟨⟨_, rfl, rfl, Try.zero5e⟩, _, 6, 21, 9, rfl, rfl, by kernel_rfl, by kernel_rfl, natsC_same zero5_length (elemL_length _), (sizeN Try.sz5e _ (elemL_length _)), natsC_one _, by kernel_rfl, rfl⟩
  intro G w4 T4
  obtain ⟨g4, hg4⟩ : ∃ g, g = G 10 := ⟨_, rfl⟩
  obtain ⟨g5, hg5⟩ : ∃ g, g = G 11 := ⟨_, rfl⟩
  simp only [List.map_cons, List.map_nil, List.cons_append, List.nil_append, ← hg4, ← hg5] at T4
  simp only [List.map_cons, List.map_nil, List.cons_append, List.nil_append, List.zip_cons_cons, List.zip_nil_right, putAll, ptrE, Act.put, List.setIfInBounds_toArray, List.set_cons_zero, List.set_cons_succ, ← hg4, ← hg5]
  have E4 := Lib.hid T4
  clear T4 E3 hg4 hg5 G
  go_wp2_with fail
  refine region_state (N := 64) E4.out (by kernel_rfl) [(0, .agg (natsC (elemL v16))), (1, .agg (natsC (elemL v23))), (2, .agg (natsC (elemL v21))), (3, .agg (natsC (elemL v25)))] [⟨4, 6, 59, (natsC (zero5)), (natsC (elemL v23))⟩, ⟨5, 7, 59, (natsC (zero5)), (natsC (elemL v25))⟩] [22, 23, 24, 25, 7, 8] (by kernel_rfl) (by kernel_rfl) (by rfl) ⟨?_, ?_, ?_, ?_, trivial⟩ ⟨?_, ?_, trivial⟩ ?_
  · refine valE_run 0 _ (fun o ho ac wc h1 h2 hE => ?_)
    obtain rfl := Option.some.inj ho
    have e5 : ac.tmps.getD 5 undef = .pointer (some ⟨g4, 0, none⟩) := h2 5 (by kernel_rfl)
    exact run_load_row _ (.tmp 5) rfl g4 e5 59 (natsC (elemL v16)) (0, 0) _ (hE.row 0 rfl) Try.underlying59 rfl (sizeN Try.sz5e _ (elemL_length _))
  · refine valE_call 1 _ 57 #[.agg (natsC (elemL v16))] (fun w => C23.out w) (fun o ho ac wc h1 h2 => ?_)
    obtain rfl := Option.some.inj ho
    have e22 : ac.tmps.getD 22 undef = .agg (natsC (elemL v16)) := h1 0 _ rfl (by kernel_rfl) 22 rfl
    exact run_call_func 57 _ _ rfl _ (by simp [Act.eval, e22]) (by go_simp)
  · refine valE_run 2 _ (fun o ho ac wc h1 h2 hE => ?_)
    obtain rfl := Option.some.inj ho
    have e6 : ac.tmps.getD 6 undef = .pointer (some ⟨g5, 0, none⟩) := h2 6 (by kernel_rfl)
    exact run_load_row _ (.tmp 6) rfl g5 e6 59 (natsC (elemL v21)) (0, 0) _ (hE.row 1 rfl) Try.underlying59 rfl (sizeN Try.sz5e _ (elemL_length _))
  · refine valE_call 3 _ 57 #[.agg (natsC (elemL v21))] (fun w => C25.out w) (fun o ho ac wc h1 h2 => ?_)
    obtain rfl := Option.some.inj ho
    have e24 : ac.tmps.getD 24 undef = .agg (natsC (elemL v21)) := h1 2 _ rfl (by kernel_rfl) 24 rfl
    exact run_call_func 57 _ _ rfl _ (by simp [Act.eval, e24]) (by go_simp)
  · exact ⟨⟨_, rfl, rfl, Try.zero5e⟩, _, 7, 23, 1, rfl, rfl, by kernel_rfl, by kernel_rfl, natsC_same zero5_length (elemL_length _), (sizeN Try.sz5e _ (elemL_length _)), natsC_one _, by kernel_rfl, rfl⟩
  · exact ⟨⟨_, rfl, rfl, Try.zero5e⟩, _, 8, 25, 3, rfl, rfl, by kernel_rfl, by kernel_rfl, natsC_same zero5_length (elemL_length _), (sizeN Try.sz5e _ (elemL_length _)), natsC_one _, by kernel_rfl, rfl⟩
  intro G w5 T5
  obtain ⟨g6, hg6⟩ : ∃ g, g = G 4 := ⟨_, rfl⟩
  obtain ⟨g7, hg7⟩ : ∃ g, g = G 5 := ⟨_, rfl⟩
  simp only [List.map_cons, List.map_nil, List.cons_append, List.nil_append, ← hg6, ← hg7] at T5
  simp only [List.map_cons, List.map_nil, List.cons_append, List.nil_append, List.zip_cons_cons, List.zip_nil_right, putAll, ptrE, Act.put, List.setIfInBounds_toArray, List.set_cons_zero, List.set_cons_succ, ← hg6, ← hg7]
  have E5 := Lib.hid T5
  clear T5 E4 hg6 hg7 G
  go_wp2_with (first
    | (with_reducible refine wpE_load (o := ⟨some 26, _, _, _, _, _⟩) rfl 59 (.tmp 7) rfl 0 g6 59 (natsC (elemL v23)) _ (by with_unfolding_all rfl) (by with_unfolding_all rfl) Try.underlying59 rfl (sizeN Try.sz5e _ (elemL_length _)) E5.out ?_)
    | (with_reducible refine wpE_load (o := ⟨some 27, _, _, _, _, _⟩) rfl 59 (.tmp 8) rfl 1 g7 59 (natsC (elemL v25)) _ (by with_unfolding_all rfl) (by with_unfolding_all rfl) Try.underlying59 rfl (sizeN Try.sz5e _ (elemL_length _)) E5.out ?_))
  refine (C28.out _).mono ?_
  rintro e w6 ⟨rfl, b6⟩
  have E6 := Lib.hid (E5.out.call b6)
  clear b6 E5
  go_wp2_with (first
    | ((with_reducible refine wpE_alloc (o := ⟨some 9, _, _, _, _, _⟩) rfl 59 rfl (natsC (zero5)) Try.zero5e E6.out ?_); intro g8 w7 T7; have E7 := Lib.hid T7; clear T7)
    | ((with_reducible refine wpE_store (o := ⟨none, _, _, _, _, _⟩) rfl 59 (.tmp 9) (.tmp 28) rfl 0 g8 59 (natsC (zero5)) (natsC (elemL v28)) (by with_unfolding_all rfl) (by with_unfolding_all rfl) (by with_unfolding_all rfl) (natsC_same zero5_length (elemL_length _)) (sizeN Try.sz5e _ (elemL_length _)) (natsC_one _) E7.out ?_); intro w8 T8; simp only [List.set_cons_zero] at T8; have E8 := Lib.hid T8; clear T8))
  refine region_state (N := 64) E8.out (by kernel_rfl) [(0, .pointer (some ⟨g1, 10, none⟩)), (1, .agg (natsC (elemL c))), (2, .pointer (some ⟨g1, 15, none⟩)), (3, .agg (natsC (elemL d))), (4, .agg (natsC (elemL v33))), (5, .agg (natsC (elemL v16))), (6, .agg (natsC (elemL v35))), (7, .pointer (some ⟨g1, 10, none⟩)), (8, .agg (natsC (elemL c))), (9, .pointer (some ⟨g1, 15, none⟩)), (10, .agg (natsC (elemL d))), (11, .agg (natsC (elemL v40))), (12, .agg (natsC (elemL v21))), (13, .agg (natsC (elemL v42)))] [⟨14, 16, 59, (natsC (zero5)), (natsC (elemL v35))⟩, ⟨15, 17, 59, (natsC (zero5)), (natsC (elemL v42))⟩] [29, 30, 31, 32, 33, 34, 35, 36, 37, 38, 39, 40, 41, 42, 10, 11] (by kernel_rfl) (by kernel_rfl) (by rfl) ⟨?_, ?_, ?_, ?_, ?_, ?_, ?_, ?_, ?_, ?_, ?_, ?_, ?_, ?_, trivial⟩ ⟨?_, ?_, trivial⟩ ?_
  · refine valE_run 0 _ (fun o ho ac wc h1 h2 hE => ?_)
    obtain rfl := Option.some.inj ho
    have e2 : ac.tmps.getD 2 undef = .pointer (some ⟨g1, 0, none⟩) := h2 2 (by kernel_rfl)
    unfold execOp
    simp only [Act.eval]
    go_simp
  · refine valE_run 1 _ (fun o ho ac wc h1 h2 hE => ?_)
    obtain rfl := Option.some.inj ho
    have e29 : ac.tmps.getD 29 undef = .pointer (some ⟨g1, 10, none⟩) := h1 0 _ rfl (by kernel_rfl) 29 rfl
    exact run_part _ (.tmp 29) rfl g1 10 e29 77 (rungL a b c d) (elemL c) _ (hE.row 7 rfl) (rungL_2 _ _ _ _) Try.underlying59 rfl (by rw [elemL_length]; exact Try.sz5e)
  · refine valE_run 2 _ (fun o ho ac wc h1 h2 hE => ?_)
    obtain rfl := Option.some.inj ho
    have e2 : ac.tmps.getD 2 undef = .pointer (some ⟨g1, 0, none⟩) := h2 2 (by kernel_rfl)
    unfold execOp
    simp only [Act.eval]
    go_simp
  · refine valE_run 3 _ (fun o ho ac wc h1 h2 hE => ?_)
    obtain rfl := Option.some.inj ho
    have e31 : ac.tmps.getD 31 undef = .pointer (some ⟨g1, 15, none⟩) := h1 2 _ rfl (by kernel_rfl) 31 rfl
    exact run_part _ (.tmp 31) rfl g1 15 e31 77 (rungL a b c d) (elemL d) _ (hE.row 7 rfl) (rungL_3 _ _ _ _) Try.underlying59 rfl (by rw [elemL_length]; exact Try.sz5e)
  · refine valE_call 4 _ 56 #[.agg (natsC (elemL c)), .agg (natsC (elemL d))] (fun w => C33.out w) (fun o ho ac wc h1 h2 => ?_)
    obtain rfl := Option.some.inj ho
    have e30 : ac.tmps.getD 30 undef = .agg (natsC (elemL c)) := h1 1 _ rfl (by kernel_rfl) 30 rfl
    have e32 : ac.tmps.getD 32 undef = .agg (natsC (elemL d)) := h1 3 _ rfl (by kernel_rfl) 32 rfl
    exact run_call_func 56 _ _ rfl _ (by simp [Act.eval, e30, e32]) (by go_simp)
  · refine valE_run 5 _ (fun o ho ac wc h1 h2 hE => ?_)
    obtain rfl := Option.some.inj ho
    have e5 : ac.tmps.getD 5 undef = .pointer (some ⟨g4, 0, none⟩) := h2 5 (by kernel_rfl)
    exact run_load_row _ (.tmp 5) rfl g4 e5 59 (natsC (elemL v16)) (0, 0) _ (hE.row 3 rfl) Try.underlying59 rfl (sizeN Try.sz5e _ (elemL_length _))
  · refine valE_call 6 _ 37 #[.agg (natsC (elemL v33)), .agg (natsC (elemL v16))] (fun w => C35.out w) (fun o ho ac wc h1 h2 => ?_)
    obtain rfl := Option.some.inj ho
    have e33 : ac.tmps.getD 33 undef = .agg (natsC (elemL v33)) := h1 4 _ rfl (by kernel_rfl) 33 rfl
    have e34 : ac.tmps.getD 34 undef = .agg (natsC (elemL v16)) := h1 5 _ rfl (by kernel_rfl) 34 rfl
    exact run_call_func 37 _ _ rfl _ (by simp [Act.eval, e33, e34]) (by go_simp)
  · refine valE_run 7 _ (fun o ho ac wc h1 h2 hE => ?_)
    obtain rfl := Option.some.inj ho
    have e2 : ac.tmps.getD 2 undef = .pointer (some ⟨g1, 0, none⟩) := h2 2 (by kernel_rfl)
    unfold execOp
    simp only [Act.eval]
    go_simp
  · refine valE_run 8 _ (fun o ho ac wc h1 h2 hE => ?_)
    obtain rfl := Option.some.inj ho
    have e36 : ac.tmps.getD 36 undef = .pointer (some ⟨g1, 10, none⟩) := h1 7 _ rfl (by kernel_rfl) 36 rfl
    exact run_part _ (.tmp 36) rfl g1 10 e36 77 (rungL a b c d) (elemL c) _ (hE.row 7 rfl) (rungL_2 _ _ _ _) Try.underlying59 rfl (by rw [elemL_length]; exact Try.sz5e)
  · refine valE_run 9 _ (fun o ho ac wc h1 h2 hE => ?_)
    obtain rfl := Option.some.inj ho
    have e2 : ac.tmps.getD 2 undef = .pointer (some ⟨g1, 0, none⟩) := h2 2 (by kernel_rfl)
    unfold execOp
    simp only [Act.eval]
    go_simp
  · refine valE_run 10 _ (fun o ho ac wc h1 h2 hE => ?_)
    obtain rfl := Option.some.inj ho
    have e38 : ac.tmps.getD 38 undef = .pointer (some ⟨g1, 15, none⟩) := h1 9 _ rfl (by kernel_rfl) 38 rfl
    exact run_part _ (.tmp 38) rfl g1 15 e38 77 (rungL a b c d) (elemL d) _ (hE.row 7 rfl) (rungL_3 _ _ _ _) Try.underlying59 rfl (by rw [elemL_length]; exact Try.sz5e)
  · refine valE_call 11 _ 55 #[.agg (natsC (elemL c)), .agg (natsC (elemL d))] (fun w => C40.out w) (fun o ho ac wc h1 h2 => ?_)
    obtain rfl := Option.some.inj ho
    have e37 : ac.tmps.getD 37 undef = .agg (natsC (elemL c)) := h1 8 _ rfl (by kernel_rfl) 37 rfl
    have e39 : ac.tmps.getD 39 undef = .agg (natsC (elemL d)) := h1 10 _ rfl (by kernel_rfl) 39 rfl
    exact run_call_func 55 _ _ rfl _ (by simp [Act.eval, e37, e39]) (by go_simp)
  · refine valE_run 12 _ (fun o ho ac wc h1 h2 hE => ?_)
    obtain rfl := Option.some.inj ho
    have e6 : ac.tmps.getD 6 undef = .pointer (some ⟨g5, 0, none⟩) := h2 6 (by kernel_rfl)
    exact run_load_row _ (.tmp 6) rfl g5 e6 59 (natsC (elemL v21)) (0, 0) _ (hE.row 4 rfl) Try.underlying59 rfl (sizeN Try.sz5e _ (elemL_length _))
  · refine valE_call 13 _ 37 #[.agg (natsC (elemL v40)), .agg (natsC (elemL v21))] (fun w => C42.out w) (fun o ho ac wc h1 h2 => ?_)
    obtain rfl := Option.some.inj ho
    have e40 : ac.tmps.getD 40 undef = .agg (natsC (elemL v40)) := h1 11 _ rfl (by kernel_rfl) 40 rfl
    have e41 : ac.tmps.getD 41 undef = .agg (natsC (elemL v21)) := h1 12 _ rfl (by kernel_rfl) 41 rfl
    exact run_call_func 37 _ _ rfl _ (by simp [Act.eval, e40, e41]) (by go_simp)
  · exact ⟨⟨_, rfl, rfl, Try.zero5e⟩, _, 10, 35, 6, rfl, rfl, by kernel_rfl, by kernel_rfl, natsC_same zero5_length (elemL_length _), (sizeN Try.sz5e _ (elemL_length _)), natsC_one _, by kernel_rfl, rfl⟩
  · exact ⟨⟨_, rfl, rfl, Try.zero5e⟩, _, 11, 42, 13, rfl, rfl, by kernel_rfl, by kernel_rfl, natsC_same zero5_length (elemL_length _), (sizeN Try.sz5e _ (elemL_length _)), natsC_one _, by kernel_rfl, rfl⟩
  intro G w9 T9
  obtain ⟨g9, hg9⟩ : ∃ g, g = G 14 := ⟨_, rfl⟩
  obtain ⟨g10, hg10⟩ : ∃ g, g = G 15 := ⟨_, rfl⟩
  simp only [List.map_cons, List.map_nil, List.cons_append, List.nil_append, ← hg9, ← hg10] at T9
  simp only [List.map_cons, List.map_nil, List.cons_append, List.nil_append, List.zip_cons_cons, List.zip_nil_right, putAll, ptrE, Act.put, List.setIfInBounds_toArray, List.set_cons_zero, List.set_cons_succ, ← hg9, ← hg10]
  have E9 := Lib.hid T9
  clear T9 E8 hg9 hg10 G
  go_wp2_with fail
  refine region_class_tail 21 _ E9.out.drew (by kernel_rfl) (by kernel_rfl) ?_
  simp only [List.take_succ_cons, List.take_zero, List.drop_succ_cons, List.drop_zero]
  refine qE_load (by rfl) _ (.tmp 7) rfl 3 g6 59 (natsC (elemL v23)) _ rfl rfl Try.underlying59 rfl (sizeN Try.sz5e _ (elemL_length _)) ?_
  simp only [Act.put, List.setIfInBounds_toArray, List.set_cons_zero, List.set_cons_succ]
  refine qE_load (by rfl) _ (.tmp 8) rfl 4 g7 59 (natsC (elemL v25)) _ rfl rfl Try.underlying59 rfl (sizeN Try.sz5e _ (elemL_length _)) ?_
  simp only [Act.put, List.setIfInBounds_toArray, List.set_cons_zero, List.set_cons_succ]
  refine q_call (by rfl) 37 _ (fun W => by go_simp) (fun W hW => hW.calls (C45.out W)) ?_
  simp only [Act.put, List.setIfInBounds_toArray, List.set_cons_zero, List.set_cons_succ]
  refine qE_load (by rfl) _ (.tmp 9) rfl 2 g8 59 (natsC (elemL v28)) _ rfl rfl Try.underlying59 rfl (sizeN Try.sz5e _ (elemL_length _)) ?_
  simp only [Act.put, List.setIfInBounds_toArray, List.set_cons_zero, List.set_cons_succ]
  refine qE_load (by rfl) _ (.tmp 7) rfl 3 g6 59 (natsC (elemL v23)) _ rfl rfl Try.underlying59 rfl (sizeN Try.sz5e _ (elemL_length _)) ?_
  simp only [Act.put, List.setIfInBounds_toArray, List.set_cons_zero, List.set_cons_succ]
  refine q_call (by rfl) 33 _ (fun W => by go_simp) (fun W hW => hW.calls (C48.out W)) ?_
  simp only [Act.put, List.setIfInBounds_toArray, List.set_cons_zero, List.set_cons_succ]
  refine qE_load (by rfl) _ (.tmp 9) rfl 2 g8 59 (natsC (elemL v28)) _ rfl rfl Try.underlying59 rfl (sizeN Try.sz5e _ (elemL_length _)) ?_
  simp only [Act.put, List.setIfInBounds_toArray, List.set_cons_zero, List.set_cons_succ]
  refine q_call (by rfl) 37 _ (fun W => by go_simp) (fun W hW => hW.calls (C50.out W)) ?_
  simp only [Act.put, List.setIfInBounds_toArray, List.set_cons_zero, List.set_cons_succ]
  refine q_call (by rfl) 55 _ (fun W => by go_simp) (fun W hW => hW.calls (C51.out W)) ?_
  simp only [Act.put, List.setIfInBounds_toArray, List.set_cons_zero, List.set_cons_succ]
  refine q_call (by rfl) 37 _ (fun W => by go_simp) (fun W hW => hW.calls (C52.out W)) ?_
  simp only [Act.put, List.setIfInBounds_toArray, List.set_cons_zero, List.set_cons_succ]
  refine qE_load (by rfl) _ (.tmp 10) rfl 0 g9 59 (natsC (elemL v35)) _ rfl rfl Try.underlying59 rfl (sizeN Try.sz5e _ (elemL_length _)) ?_
  simp only [Act.put, List.setIfInBounds_toArray, List.set_cons_zero, List.set_cons_succ]
  refine qE_load (by rfl) _ (.tmp 11) rfl 1 g10 59 (natsC (elemL v42)) _ rfl rfl Try.underlying59 rfl (sizeN Try.sz5e _ (elemL_length _)) ?_
  simp only [Act.put, List.setIfInBounds_toArray, List.set_cons_zero, List.set_cons_succ]
  refine q_call (by rfl) 55 _ (fun W => by go_simp) (fun W hW => hW.calls (C55.out W)) ?_
  simp only [Act.put, List.setIfInBounds_toArray, List.set_cons_zero, List.set_cons_succ]
  refine q_call (by rfl) 57 _ (fun W => by go_simp) (fun W hW => hW.calls (C56.out W)) ?_
  simp only [Act.put, List.setIfInBounds_toArray, List.set_cons_zero, List.set_cons_succ]
  refine qE_load (by rfl) _ (.tmp 3) rfl 8 g2 59 (natsC (elemL u)) _ rfl rfl Try.underlying59 rfl (sizeN Try.sz5e _ (elemL_length _)) ?_
  simp only [Act.put, List.setIfInBounds_toArray, List.set_cons_zero, List.set_cons_succ]
  refine qE_load (by rfl) _ (.tmp 10) rfl 0 g9 59 (natsC (elemL v35)) _ rfl rfl Try.underlying59 rfl (sizeN Try.sz5e _ (elemL_length _)) ?_
  simp only [Act.put, List.setIfInBounds_toArray, List.set_cons_zero, List.set_cons_succ]
  refine qE_load (by rfl) _ (.tmp 11) rfl 1 g10 59 (natsC (elemL v42)) _ rfl rfl Try.underlying59 rfl (sizeN Try.sz5e _ (elemL_length _)) ?_
  simp only [Act.put, List.setIfInBounds_toArray, List.set_cons_zero, List.set_cons_succ]
  refine q_call (by rfl) 56 _ (fun W => by go_simp) (fun W hW => hW.calls (C60.out W)) ?_
  simp only [Act.put, List.setIfInBounds_toArray, List.set_cons_zero, List.set_cons_succ]
  refine q_call (by rfl) 57 _ (fun W => by go_simp) (fun W hW => hW.calls (C61.out W)) ?_
  simp only [Act.put, List.setIfInBounds_toArray, List.set_cons_zero, List.set_cons_succ]
  refine q_call (by rfl) 37 _ (fun W => by go_simp) (fun W hW => hW.calls (C62.out W)) ?_
  simp only [Act.put, List.setIfInBounds_toArray, List.set_cons_zero, List.set_cons_succ]
  refine q_run (by rfl) (v := .agg (natsC (rungL v45 v52 v56 v62))) (fun W _ => run_buildR (.tmp 45) (.tmp 52) (.tmp 56) (.tmp 62) rfl v45 v52 v56 v62 rfl rfl rfl rfl) ?_
  simp only [Act.put, List.setIfInBounds_toArray, List.set_cons_zero, List.set_cons_succ]
  refine wpQuiet_nil ?_
  intro w10 T10
  have E10 := Lib.hid T10
  clear T10 E9
  go_wp2_with (first
    | ((with_reducible refine wpE_store (o := ⟨none, _, _, _, _, _⟩) rfl 77 (.tmp 4) (.tmp 63) rfl 7 g3 77 (natsC (rungL 0 0 0 0)) (natsC (rungL v45 v52 v56 v62)) (by with_unfolding_all rfl) (by with_unfolding_all rfl) (by with_unfolding_all rfl) (natsC_same (rungL_length _ _ _ _) (rungL_length _ _ _ _)) (sizeN Try.szR _ (rungL_length _ _ _ _)) (natsC_one _) E10.out ?_); intro w11 T11; simp only [List.set_cons_zero, List.set_cons_succ] at T11; have E11 := Lib.hid T11; clear T11))
  refine bodyPost_ret (results_cell_row rfl _ _ g3 77 (natsC (rungL v45 v52 v56 v62)) (0, 0) _ rfl (E11.out.row 7 rfl) Try.underlying77 rfl (sizeN Try.szR _ (rungL_length _ _ _ _))) rfl ⟨?_, E11.out.below⟩
  rw [HR.out]
end Go.Proofs.Ythipdfmaaeoijaa
end
section
namespace Go.Proofs.Ythipdfmaaeoijaa
open Go.RowKit
set_option linter.unusedVariables false
set_option maxRecDepth 20000

theorem keyC_at {w : World} {g : Nat} {t : TypeId} {l : List UInt8} (h : RowAt w g t (keyC l)) (i : Nat) {x : UInt8} (hx : l[i]? = some x) : w.cell? ⟨g, i, none⟩ = some (.int .u8 (x.toNat : Int)) := by
  obtain ⟨hi, rfl⟩ := List.getElem?_eq_some_iff.1 hx
  exact keyC_cell h i hi
/-- A secret, clamped. -/
def clampK (l : List UInt8) : List UInt8 := (l.set 0 (l.getD 0 0 &&& 248)).set 31 ((l.getD 31 0 &&& 127) ||| 64)
theorem clampK_length (l : List UInt8) (h : l.length = 32) : (clampK l).length = 32 := by simp [clampK, h]
theorem u8_low (x : UInt8) : bits .andNot .u8 (x.toNat : Int) 7 = ((x &&& 248).toNat : Int) := by
  have h := u8_andNot_nat x.toNat 7 x.toNat_lt (by omega)
  rw [show ((7 : Nat) : Int) = 7 from rfl] at h
  rw [h, UInt8.toNat_and]
  rfl
theorem u8_high (x : UInt8) : bits .andNot .u8 (x.toNat : Int) 128 = ((x &&& 127).toNat : Int) := by
  have h := u8_andNot_nat x.toNat 128 x.toNat_lt (by omega)
  rw [show ((128 : Nat) : Int) = 128 from rfl] at h
  rw [h, UInt8.toNat_and]
  rfl
theorem u8_second (x : UInt8) : bits .or .u8 (x.toNat : Int) 64 = ((x ||| 64).toNat : Int) := by
  have h := u8_or_nat x.toNat 64 x.toNat_lt (by omega)
  rw [show ((64 : Nat) : Int) = 64 from rfl] at h
  rw [h, UInt8.toNat_or]
  rfl
set_option maxHeartbeats 2000000 in
theorem Clamp_any (l : List UInt8) (hl : l.length = 32) (w : World) : Calls Try.prog 25 #[.agg (keyC l)] w (RetV w (.agg (keyC (clampK l)))) := by
  obtain ⟨x, hx⟩ : ∃ x, x = l.getD 0 0 := ⟨_, rfl⟩
  obtain ⟨y, hy⟩ : ∃ y, y = l.getD 31 0 := ⟨_, rfl⟩
  obtain ⟨x', hx'⟩ : ∃ z, z = x &&& 248 := ⟨_, rfl⟩
  obtain ⟨y', hy'⟩ : ∃ z, z = y &&& 127 := ⟨_, rfl⟩
  obtain ⟨z, hz⟩ : ∃ u, u = y' ||| 64 := ⟨_, rfl⟩
  have b1 := u8_low x
  have b2 := u8_high y
  have b3 := u8_second y'
  rw [← hx'] at b1
  rw [← hy'] at b2
  rw [← hz] at b3
  have HL := Lib.hid hl
  have g0 : Hid (l[0]? = some x) := by show _ = _; rw [hx]; simp [hl]
  have g31 : Hid ((l.set 0 x')[31]? = some y) := by show _ = _; rw [hy]; simp [hl]
  have g32 : Hid (((l.set 0 x').set 31 y')[31]? = some y') := by show _ = _; simp [hl]
  have hfin : Hid (clampK l = ((l.set 0 x').set 31 y').set 31 z) := by show _ = _; rw [clampK, List.set_set, ← hx, ← hy, ← hx', ← hy', ← hz]
  clear hx hy hx' hy' hz hl
  have E0 := Lib.hid (Env.start w)
  go_enter Try.func25, Try.ntmps25
  go_wp2_with (first
    | ((with_reducible refine wpE_box (o := ⟨some 1, _, _, _, _, _⟩) rfl 32 (.tmp 0) rfl (keyC l) (by with_unfolding_all rfl) E0.out ?_); intro g1 w1 T1; have E1 := Lib.hid T1; clear T1)
    | ((with_reducible refine wpE_alloc (o := ⟨some 2, _, _, _, _, _⟩) rfl 32 rfl (keyC zeroKey) Try.zeroK E1.out ?_); intro g2 w2 T2; have c0 := keyC_at (T2.row 1 rfl) 0 g0.out; have f0 := T2.fzN 1 rfl 0; have T3 := T2.cellTo 1 rfl 0 (.int .u8 (x'.toNat : Int)) (keyC_put l 0 x'); simp only [List.set_cons_zero, List.set_cons_succ] at T3; have c1 := keyC_at (T3.row 1 rfl) 31 g31.out; have f1 := T3.fzN 1 rfl 31; have T4 := T3.cellTo 1 rfl 31 (.int .u8 (y'.toNat : Int)) (keyC_put _ 31 y'); simp only [List.set_cons_zero, List.set_cons_succ] at T4; have c2 := keyC_at (T4.row 1 rfl) 31 g32.out; have f2 := T4.fzN 1 rfl 31; have T5 := T4.cellTo 1 rfl 31 (.int .u8 (z.toNat : Int)) (keyC_put _ 31 z); simp only [List.set_cons_zero, List.set_cons_succ] at T5; rw [← hfin.out] at T5; have E2 := Lib.hid T5; clear T2 T3 T4 T5)
    | (with_reducible refine wpE_load (o := ⟨some 15, _, _, _, _, _⟩) rfl 32 (.tmp 1) rfl 1 g1 32 (keyC (clampK l)) _ (by with_unfolding_all rfl) (by with_unfolding_all rfl) Try.underlying32 rfl (Try.sizeKey _ (clampK_length l HL.out)) E2.out ?_)
    | ((with_reducible refine wpE_store (o := ⟨none, _, _, _, _, _⟩) rfl 32 (.tmp 2) (.tmp 15) rfl 0 g2 32 (keyC zeroKey) (keyC (clampK l)) (by with_unfolding_all rfl) (by with_unfolding_all rfl) (by with_unfolding_all rfl) (keyC_same zeroKey_length (clampK_length l HL.out)) (Try.sizeKey _ (clampK_length l HL.out)) (keyC_one _) E2.out ?_); intro w9 T9; simp only [List.set_cons_zero] at T9; have E9 := Lib.hid T9; clear T9))
  exact bodyPost_ret (results_cell_row rfl _ _ g2 32 (keyC (clampK l)) (0, 0) _ rfl (E9.out.row 0 rfl) Try.underlying32 rfl (Try.sizeKey _ (clampK_length l HL.out))) rfl (E9.out.ret _)
theorem bit_and (x : UInt8) (r : Nat) : (bits .and .u8 ((x.toNat : Int) / 2 ^ r) 1 == 1) = (x.toNat / 2 ^ r % 2 == 1) := by
  have h1 : x.toNat / 2 ^ r < 256 := Nat.lt_of_le_of_lt (Nat.div_le_self _ _) x.toNat_lt
  have h := u8_and_nat (x.toNat / 2 ^ r) 1 h1 (by omega)
  have e : ((x.toNat / 2 ^ r : Nat) : Int) = (x.toNat : Int) / 2 ^ r := by simp
  rw [e, show ((1 : Nat) : Int) = 1 from rfl] at h
  rw [h, Nat.and_one_is_mod, Bool.eq_iff_iff, beq_iff_eq, beq_iff_eq]
  omega
/-- A bit of a key, the lowest one first. -/
def bitK (l : List UInt8) (i : Nat) : Bool := (l.getD (i / 8) 0).toNat / 2 ^ (i % 8) % 2 == 1
set_option maxHeartbeats 2000000 in
theorem isSet_any (l : List UInt8) (hl : l.length = 32) (i : Nat) (hi : i < 256) (w : World) : Calls Try.prog 34 #[.agg (keyC l), .int .i64 (i : Int)] w (RetV w (.bool (bitK l i))) := by
  obtain ⟨q, hq⟩ : ∃ q, q = i / 8 := ⟨_, rfl⟩
  obtain ⟨r, hr⟩ : ∃ r, r = i % 8 := ⟨_, rfl⟩
  obtain ⟨x, hx⟩ : ∃ x, x = l.getD q 0 := ⟨_, rfl⟩
  have hq32 : q < 32 := by omega
  have hr8 : r < 8 := by omega
  have t1 : (i : Int) / 8 = (q : Int) := by omega
  have t2 : (i : Int) % 8 = (r : Int) := by omega
  have HL := Lib.hid hl
  have g0 : Hid (l[q]? = some x) := by show _ = _; rw [hx]; simp [hl, hq32]
  have hb : bitK l i = (x.toNat / 2 ^ r % 2 == 1) := by unfold bitK; rw [← hq, ← hr, ← hx]
  rw [hb]
  have HQ := Lib.hid hq32
  clear hb hx hq hr hl
  have E0 := Lib.hid (Env.start w)
  go_enter Try.func34, Try.ntmps34
  go_wp2_with (first
    | ((with_reducible refine wpE_box (o := ⟨some 2, _, _, _, _, _⟩) rfl 32 (.tmp 0) rfl (keyC l) (by with_unfolding_all rfl) E0.out ?_); intro g1 w1 T1; have c0 := keyC_at (T1.row 0 rfl) q g0.out; have E1 := Lib.hid T1; clear T1))
  go_ret
  refine ⟨?_, E1.out.below⟩
  show Ending.returned (.bool (bits .and .u8 ((x.toNat : Int) / 2 ^ r) 1 == 1)) = _
  rw [bit_and x r]
end Go.Proofs.Ythipdfmaaeoijaa
end
