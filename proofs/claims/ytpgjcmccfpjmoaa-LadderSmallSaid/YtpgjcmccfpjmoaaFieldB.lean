/-
  Contract of the field's reduced. Conditions: as each theorem names them.
-/
import Derived.Test.YtpgjcmccfpjmoaaFieldA
namespace Go.Proofs.Ytpgjcmccfpjmoaa
open Go.RowKit
set_option linter.unusedVariables false
set_option maxRecDepth 20000

theorem Try.sizeOfU64 (w : World) : (sizeOf 39).run Try.prog w = .ok 1 w := by kernel_rfl
theorem Try.eqPartsIn (a b : List Nat) (ha : a.length = 5) (hb : b.length = 5) (w : World) :
    (Op.equalIn 10000 43 (.agg (natsC a)) (.agg (natsC b))).run Try.prog w = .ok (a == b) w :=
  nats_eqIn w 9998 43 39 5 Try.underlying43 Try.underlying39 Try.sizeOfU64 a b ha hb
theorem Try.eqGuardParts : Try.prog.eqGuardType Try.prog.depth 43 = false := by kernel_rfl
theorem maskV (x : Nat) : Value.agg #[.int .u64 (x : Int), .int .u64 2251799813685247, .int .u64 2251799813685247, .int .u64 2251799813685247, .int .u64 2251799813685247] = .agg (natsC [x, 2251799813685247, 2251799813685247, 2251799813685247, 2251799813685247]) := rfl
theorem lessV (x : Nat) : Value.agg #[.int .u64 (x : Int), .int .u64 0, .int .u64 0, .int .u64 0, .int .u64 0] = .agg (natsC [x, 0, 0, 0, 0]) := rfl

theorem less_length (y : Nat) : [y, 0, 0, 0, 0].length = 5 := rfl

set_option maxHeartbeats 1000000 in
theorem reduced_any (w : World) (l : List Nat) (hl : l.length = 5) (hB : ∀ x ∈ l, x < 9223372036854775808) :
    Calls Try.prog 36 #[.agg (natsC l)] w (RetV w (.agg (natsC (elemL (valL l % pF))))) := by
  have C1 : Hid (∀ w, Calls Try.prog 51 #[.agg (natsC l)] w (RetV w (.agg (natsC (carriedL l))))) := fun w => carried_any w l hl hB
  have C2 : Hid (∀ w, Calls Try.prog 51 #[.agg (natsC (carriedL l))] w (RetV w (.agg (natsC (carriedL (carriedL l)))))) := fun w => carried_any w _ (carriedL_length l) (carriedL_lt l hl hB)
  obtain ⟨htw, hlt⟩ := carried_twice l hl hB
  have hmod := twiceN_mod (valL l)
  obtain ⟨m, hm⟩ : ∃ m, m = twiceN (valL l) := ⟨_, rfl⟩
  rw [← hm] at htw hlt hmod
  rw [← hmod]
  rw [htw] at C2
  have HL := Lib.hid hl
  have h0 : (digL 5 m).getD 0 0 = m % Mx := rfl
  have hml : m % Mx < 2251799813685248 := Nat.mod_lt _ Mx_pos
  obtain ⟨x, hx⟩ : ∃ x, x = m % Mx := ⟨_, rfl⟩
  rw [← hx] at h0 hml
  have HX := Lib.hid hx
  have HLT := Lib.hid hlt
  have hd := digL_length 5 m
  have HD := Lib.hid hd
  have hnb := not_below m hlt
  rw [← hx] at hnb
  have cases3 : (2251799813685229 ≤ x ∧ digL 5 m = [x, 2251799813685247, 2251799813685247, 2251799813685247, 2251799813685247] ∧ [x - 2251799813685229, 0, 0, 0, 0] = elemL (m % pF)) ∨ (2251799813685229 ≤ x ∧ digL 5 m ≠ [x, 2251799813685247, 2251799813685247, 2251799813685247, 2251799813685247] ∧ digL 5 m = elemL (m % pF)) ∨ (x < 2251799813685229 ∧ digL 5 m = elemL (m % pF)) := by
    by_cases hp : pF ≤ m
    · have h := hnb.2 hp
      exact .inl ⟨h.1, h.2, by rw [hx]; exact less_p m hlt hp⟩
    · by_cases hg : 2251799813685229 ≤ x
      · exact .inr (.inl ⟨hg, fun he => hp (hnb.1 ⟨hg, he⟩), below_p m hp⟩)
      · exact .inr (.inr ⟨by omega, below_p m hp⟩)
  clear hl hB htw hlt hmod hm hd hnb hx
  have E0 := Env.start w
  go_enter Try.func36, Try.ntmps36
  go_wp2_with (first
    | ((with_reducible refine wpE_box (o := ⟨some 1, _, _, _, _, _⟩) rfl 43 (.tmp 0) rfl (natsC l) (by with_unfolding_all rfl) E0 ?_); intro g1 w1 E1)
    | ((with_reducible refine wpE_alloc (o := ⟨some 2, _, _, _, _, _⟩) rfl 45 rfl (natsC zero5) Try.zero5e E1 ?_); intro g2 w2 E2)
    | (with_reducible refine wpE_load (o := ⟨some 3, _, _, _, _, _⟩) rfl 43 (.tmp 1) rfl 1 g1 43 (natsC l) (.array 5 39) (by with_unfolding_all rfl) (by with_unfolding_all rfl) Try.underlying43 rfl (sizeN Try.sz5p _ HL.out) E2 ?_))
  refine (C1.out _).mono ?_
  rintro e w3 ⟨rfl, b3⟩
  have E3 := Lib.hid (E2.call b3)
  clear E0 E1 E2 b3
  go_wp2_with fail
  refine (C2.out _).mono ?_
  rintro e w4 ⟨rfl, b4⟩
  have E4 := Lib.hid (E3.out.call b4)
  clear E3 b4
  have HEQ : Hid (∀ b : Bool, (digL 5 m == [x, 2251799813685247, 2251799813685247, 2251799813685247, 2251799813685247]) = b → ∀ W, (Op.equalIn 10000 43 (.agg (natsC (digL 5 m))) (.agg #[.int .u64 (x : Int), .int .u64 2251799813685247, .int .u64 2251799813685247, .int .u64 2251799813685247, .int .u64 2251799813685247])).run Try.prog W = .ok b W) := fun b hb W => by
    rw [maskV, Try.eqPartsIn _ _ HD.out rfl W, hb]
  have H0 := Lib.hid h0
  clear h0
  rcases cases3 with ⟨hge, heq, hout⟩ | ⟨hge, heq, hout⟩ | ⟨hge, hout⟩
  · have hQ := HEQ.out true (by rw [← heq, beq_self_eq_true])
    have HO := Lib.hid hout
    have hgb : decide ((2251799813685229 : Int) ≤ (x : Int)) = true := by rw [decide_eq_true_eq]; omega
    obtain ⟨y, hy⟩ : ∃ y, y = x - 2251799813685229 := ⟨_, rfl⟩
    have hsub : (x : Int) - 2251799813685229 = (y : Int) := by omega
    have hyl : y < 18446744073709551616 := by omega
    rw [← hy] at HO
    clear heq hout HEQ hy
    go_wp2_with (first
      | ((with_reducible refine wpE_store (o := ⟨none, _, _, _, _, _⟩) rfl 43 (.tmp 1) (.tmp 5) rfl 1 g1 43 (natsC l) (natsC (digL 5 m)) (by with_unfolding_all rfl) (by with_unfolding_all rfl) (by with_unfolding_all rfl) (natsC_same HL.out HD.out) (sizeN Try.sz5p _ HD.out) (natsC_one _) E4.out ?_); intro w5 E5; simp only [List.set_cons_zero, List.set_cons_succ] at E5; have c1 := E5.getN 1 rfl 0 (by rw [HD.out]; omega); rw [H0.out] at c1)
      | (with_reducible refine wpListG_load_row (o := ⟨some 10, _, _, _, _, _⟩) 43 (.tmp 1) rfl (by with_unfolding_all go_simp) g1 (by with_unfolding_all rfl) 43 (natsC (digL 5 m)) (.array 5 39) (E5.row 1 rfl) Try.underlying43 rfl (sizeN Try.sz5p _ HD.out) ?_)
      | ((with_reducible refine wpE_store (o := ⟨none, _, _, _, _, _⟩) rfl 43 (.tmp 1) (.tmp 19) rfl 1 g1 43 (natsC (digL 5 m)) (natsC [y, 0, 0, 0, 0]) (by with_unfolding_all rfl) (by with_unfolding_all rfl) (by with_unfolding_all exact lessV y) (natsC_same HD.out (less_length y)) (sizeN Try.sz5p _ (less_length y)) (natsC_one _) E5 ?_); intro w6 E6; simp only [List.set_cons_zero, List.set_cons_succ] at E6)
      | (with_reducible refine wpE_load (o := ⟨some 20, _, _, _, _, _⟩) rfl 43 (.tmp 1) rfl 1 g1 43 (natsC [y, 0, 0, 0, 0]) (.array 5 39) (by with_unfolding_all rfl) (by with_unfolding_all rfl) Try.underlying43 rfl (sizeN Try.sz5p _ (less_length y)) E6 ?_)
      | (with_reducible refine wpList_build1 (o := ⟨some 21, _, _, _, _, _⟩) rfl 45 (.tmp 20) rfl (natsC [y, 0, 0, 0, 0]) (by with_unfolding_all rfl) _ 5 _ Try.underlying45 rfl Try.sz5p Try.zero5e rfl (by rw [natsC_size, (less_length y)]) ?_)
      | ((with_reducible refine wpE_store (o := ⟨none, _, _, _, _, _⟩) rfl 45 (.tmp 2) (.tmp 21) rfl 0 g2 45 (natsC zero5) (natsC [y, 0, 0, 0, 0]) (by with_unfolding_all rfl) (by with_unfolding_all rfl) (by with_unfolding_all rfl) (natsC_same zero5_length (less_length y)) (sizeN Try.sz5e _ (less_length y)) (natsC_one _) E6 ?_); intro w9 E9))
    refine bodyPost_ret (results_cell_row rfl _ _ g2 45 (natsC [y, 0, 0, 0, 0]) (0, 0) _ rfl (E9.row 0 rfl) Try.underlying45 rfl (sizeN Try.sz5e _ (less_length y))) rfl ?_
    rw [← HO.out]
    exact E9.ret _
  · have hQ := HEQ.out false (by simpa using heq)
    have HO := Lib.hid hout
    have hgb : decide ((2251799813685229 : Int) ≤ (x : Int)) = true := by rw [decide_eq_true_eq]; omega
    clear heq hout HEQ
    go_wp2_with (first
      | ((with_reducible refine wpE_store (o := ⟨none, _, _, _, _, _⟩) rfl 43 (.tmp 1) (.tmp 5) rfl 1 g1 43 (natsC l) (natsC (digL 5 m)) (by with_unfolding_all rfl) (by with_unfolding_all rfl) (by with_unfolding_all rfl) (natsC_same HL.out HD.out) (sizeN Try.sz5p _ HD.out) (natsC_one _) E4.out ?_); intro w5 E5; simp only [List.set_cons_zero, List.set_cons_succ] at E5; have c1 := E5.getN 1 rfl 0 (by rw [HD.out]; omega); rw [H0.out] at c1)
      | (with_reducible refine wpListG_load_row (o := ⟨some 10, _, _, _, _, _⟩) 43 (.tmp 1) rfl (by with_unfolding_all go_simp) g1 (by with_unfolding_all rfl) 43 (natsC (digL 5 m)) (.array 5 39) (E5.row 1 rfl) Try.underlying43 rfl (sizeN Try.sz5p _ HD.out) ?_)
      | (with_reducible refine wpE_load (o := ⟨some 20, _, _, _, _, _⟩) rfl 43 (.tmp 1) rfl 1 g1 43 (natsC (digL 5 m)) (.array 5 39) (by with_unfolding_all rfl) (by with_unfolding_all rfl) Try.underlying43 rfl (sizeN Try.sz5p _ HD.out) E5 ?_)
      | (with_reducible refine wpList_build1 (o := ⟨some 21, _, _, _, _, _⟩) rfl 45 (.tmp 20) rfl (natsC (digL 5 m)) (by with_unfolding_all rfl) _ 5 _ Try.underlying45 rfl Try.sz5p Try.zero5e rfl (by rw [natsC_size, HD.out]) ?_)
      | ((with_reducible refine wpE_store (o := ⟨none, _, _, _, _, _⟩) rfl 45 (.tmp 2) (.tmp 21) rfl 0 g2 45 (natsC zero5) (natsC (digL 5 m)) (by with_unfolding_all rfl) (by with_unfolding_all rfl) (by with_unfolding_all rfl) (natsC_same zero5_length HD.out) (sizeN Try.sz5e _ HD.out) (natsC_one _) E5 ?_); intro w9 E9))
    refine bodyPost_ret (results_cell_row rfl _ _ g2 45 (natsC (digL 5 m)) (0, 0) _ rfl (E9.row 0 rfl) Try.underlying45 rfl (sizeN Try.sz5e _ HD.out)) rfl ?_
    rw [← HO.out]
    exact E9.ret _
  · have HO := Lib.hid hout
    have hgb : decide ((2251799813685229 : Int) ≤ (x : Int)) = false := by rw [decide_eq_false_iff_not]; omega
    clear hout HEQ
    go_wp2_with (first
      | ((with_reducible refine wpE_store (o := ⟨none, _, _, _, _, _⟩) rfl 43 (.tmp 1) (.tmp 5) rfl 1 g1 43 (natsC l) (natsC (digL 5 m)) (by with_unfolding_all rfl) (by with_unfolding_all rfl) (by with_unfolding_all rfl) (natsC_same HL.out HD.out) (sizeN Try.sz5p _ HD.out) (natsC_one _) E4.out ?_); intro w5 E5; simp only [List.set_cons_zero, List.set_cons_succ] at E5; have c1 := E5.getN 1 rfl 0 (by rw [HD.out]; omega); rw [H0.out] at c1)
      | (with_reducible refine wpE_load (o := ⟨some 20, _, _, _, _, _⟩) rfl 43 (.tmp 1) rfl 1 g1 43 (natsC (digL 5 m)) (.array 5 39) (by with_unfolding_all rfl) (by with_unfolding_all rfl) Try.underlying43 rfl (sizeN Try.sz5p _ HD.out) E5 ?_)
      | (with_reducible refine wpList_build1 (o := ⟨some 21, _, _, _, _, _⟩) rfl 45 (.tmp 20) rfl (natsC (digL 5 m)) (by with_unfolding_all rfl) _ 5 _ Try.underlying45 rfl Try.sz5p Try.zero5e rfl (by rw [natsC_size, HD.out]) ?_)
      | ((with_reducible refine wpE_store (o := ⟨none, _, _, _, _, _⟩) rfl 45 (.tmp 2) (.tmp 21) rfl 0 g2 45 (natsC zero5) (natsC (digL 5 m)) (by with_unfolding_all rfl) (by with_unfolding_all rfl) (by with_unfolding_all rfl) (natsC_same zero5_length HD.out) (sizeN Try.sz5e _ HD.out) (natsC_one _) E5 ?_); intro w9 E9))
    refine bodyPost_ret (results_cell_row rfl _ _ g2 45 (natsC (digL 5 m)) (0, 0) _ rfl (E9.row 0 rfl) Try.underlying45 rfl (sizeN Try.sz5e _ HD.out)) rfl ?_
    rw [← HO.out]
    exact E9.ret _
end Go.Proofs.Ytpgjcmccfpjmoaa
