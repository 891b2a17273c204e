/-
  Texts that belong together, merged: FieldB, FieldC, FieldD, FieldE. Conditions: as each theorem names them.
-/
import Derived.Test.YtpgjcmccfpjmoaaQLadAB
import Derived.Lib.Mul64
import Derived.Laws.Externs
import Derived.StillTailTactics
section
namespace Go.Proofs.Ytpgjcmccfpjmoaa
open Go.RowKit
set_option linter.unusedVariables false
set_option maxRecDepth 20000

theorem Try.sizeOfU64 (w : World) : (sizeOf 39).run Try.prog w = .ok 1 w := by kernel_rfl
theorem Try.eqPartsIn (a b : List Nat) (ha : a.length = 5) (hb : b.length = 5) (w : World) :
    (Op.equalIn 10000 43 (.agg (natsC a)) (.agg (natsC b))).run Try.prog w = .ok (a == b) w :=
  nats_eqIn w 9998 43 39 5 Try.underlying43 Try.underlying39 Try.sizeOfU64 a b ha hb
theorem Try.eqGuardParts : Try.prog.eqGuardType Try.prog.depth 43 = false := by kernel_rfl
theorem maskV (x : Nat) : Value.agg #[.int .u64 (x : Int), .int .u64 2251799813685247, .int .u64 2251799813685247, .int .u64 2251799813685247, .int .u64 2251799813685247] = .agg (natsC [x, 2251799813685247, 2251799813685247, 2251799813685247, 2251799813685247]) := rfl
theorem lessV (x : Nat) : Value.agg #[.int .u64 (x : Int), .int .u64 0, .int .u64 0, .int .u64 0, .int .u64 0] = .agg (natsC [x, 0, 0, 0, 0]) := rfl

theorem less_length (y : Nat) : [y, 0, 0, 0, 0].length = 5 := rfl

set_option maxHeartbeats 1000000 in
theorem reduced_any (w : World) (l : List Nat) (hl : l.length = 5) (hB : ∀ x ∈ l, x < 9223372036854775808) :
    Calls Try.prog 36 #[.agg (natsC l)] w (RetV w (.agg (natsC (elemL (valL l % pF))))) := by
  have C1 : Hid (∀ w, Calls Try.prog 51 #[.agg (natsC l)] w (RetV w (.agg (natsC (carriedL l))))) := fun w => carried_any w l hl hB
  have C2 : Hid (∀ w, Calls Try.prog 51 #[.agg (natsC (carriedL l))] w (RetV w (.agg (natsC (carriedL (carriedL l)))))) := fun w => carried_any w _ (carriedL_length l) (carriedL_lt l hl hB)
  obtain ⟨htw, hlt⟩ := carried_twice l hl hB
  have hmod := twiceN_mod (valL l)
  obtain ⟨m, hm⟩ : ∃ m, m = twiceN (valL l) := ⟨_, rfl⟩
  rw [← hm] at htw hlt hmod
  rw [← hmod]
  rw [htw] at C2
  have HL := Lib.hid hl
  have h0 : (digL 5 m).getD 0 0 = m % Mx := rfl
  have hml : m % Mx < 2251799813685248 := Nat.mod_lt _ Mx_pos
  obtain ⟨x, hx⟩ : ∃ x, x = m % Mx := ⟨_, rfl⟩
  rw [← hx] at h0 hml
  have HX := Lib.hid hx
  have HLT := Lib.hid hlt
  have hd := digL_length 5 m
  have HD := Lib.hid hd
  have hnb := not_below m hlt
  rw [← hx] at hnb
  have cases3 : (2251799813685229 ≤ x ∧ digL 5 m = [x, 2251799813685247, 2251799813685247, 2251799813685247, 2251799813685247] ∧ [x - 2251799813685229, 0, 0, 0, 0] = elemL (m % pF)) ∨ (2251799813685229 ≤ x ∧ digL 5 m ≠ [x, 2251799813685247, 2251799813685247, 2251799813685247, 2251799813685247] ∧ digL 5 m = elemL (m % pF)) ∨ (x < 2251799813685229 ∧ digL 5 m = elemL (m % pF)) := by
    by_cases hp : pF ≤ m
    · have h := hnb.2 hp
      exact .inl ⟨h.1, h.2, by rw [hx]; exact less_p m hlt hp⟩
    · by_cases hg : 2251799813685229 ≤ x
      · exact .inr (.inl ⟨hg, fun he => hp (hnb.1 ⟨hg, he⟩), below_p m hp⟩)
      · exact .inr (.inr ⟨by omega, below_p m hp⟩)
  clear hl hB htw hlt hmod hm hd hnb hx
  have E0 := Env.start w
  go_enter Try.func36, Try.ntmps36
  go_wp2_with (first
    | ((with_reducible refine wpE_box (o := ⟨some 1, _, _, _, _, _⟩) rfl 43 (.tmp 0) rfl (natsC l) (by with_unfolding_all rfl) E0 ?_); intro g1 w1 E1)
    | ((with_reducible refine wpE_alloc (o := ⟨some 2, _, _, _, _, _⟩) rfl 45 rfl (natsC zero5) Try.zero5e E1 ?_); intro g2 w2 E2)
    | (with_reducible refine wpE_load (o := ⟨some 3, _, _, _, _, _⟩) rfl 43 (.tmp 1) rfl 1 g1 43 (natsC l) (.array 5 39) (by with_unfolding_all rfl) (by with_unfolding_all rfl) Try.underlying43 rfl (sizeN Try.sz5p _ HL.out) E2 ?_))
  refine (C1.out _).mono ?_
  rintro e w3 ⟨rfl, b3⟩
  have E3 := Lib.hid (E2.call b3)
  clear E0 E1 E2 b3
  go_wp2_with fail
  refine (C2.out _).mono ?_
  rintro e w4 ⟨rfl, b4⟩
  have E4 := Lib.hid (E3.out.call b4)
  clear E3 b4
  have HEQ : Hid (∀ b : Bool, (digL 5 m == [x, 2251799813685247, 2251799813685247, 2251799813685247, 2251799813685247]) = b → ∀ W, (Op.equalIn 10000 43 (.agg (natsC (digL 5 m))) (.agg #[.int .u64 (x : Int), .int .u64 2251799813685247, .int .u64 2251799813685247, .int .u64 2251799813685247, .int .u64 2251799813685247])).run Try.prog W = .ok b W) := fun b hb W => by
    rw [maskV, Try.eqPartsIn _ _ HD.out rfl W, hb]
  have H0 := Lib.hid h0
  clear h0
  rcases cases3 with ⟨hge, heq, hout⟩ | ⟨hge, heq, hout⟩ | ⟨hge, hout⟩
  · have hQ := HEQ.out true (by rw [← heq, beq_self_eq_true])
    have HO := Lib.hid hout
    have hgb : decide ((2251799813685229 : Int) ≤ (x : Int)) = true := by rw [decide_eq_true_eq]; omega
    obtain ⟨y, hy⟩ : ∃ y, y = x - 2251799813685229 := ⟨_, rfl⟩
    have hsub : (x : Int) - 2251799813685229 = (y : Int) := by omega
    have hyl : y < 18446744073709551616 := by omega
    rw [← hy] at HO
    clear heq hout HEQ hy
    go_wp2_with (first
      | ((with_reducible refine wpE_store (o := ⟨none, _, _, _, _, _⟩) rfl 43 (.tmp 1) (.tmp 5) rfl 1 g1 43 (natsC l) (natsC (digL 5 m)) (by with_unfolding_all rfl) (by with_unfolding_all rfl) (by with_unfolding_all rfl) (natsC_same HL.out HD.out) (sizeN Try.sz5p _ HD.out) (natsC_one _) E4.out ?_); intro w5 E5; simp only [List.set_cons_zero, List.set_cons_succ] at E5; have c1 := E5.getN 1 rfl 0 (by rw [HD.out]; omega); rw [H0.out] at c1)
      | (with_reducible refine wpListG_load_row (o := ⟨some 10, _, _, _, _, _⟩) 43 (.tmp 1) rfl (by with_unfolding_all go_simp) g1 (by with_unfolding_all rfl) 43 (natsC (digL 5 m)) (.array 5 39) (E5.row 1 rfl) Try.underlying43 rfl (sizeN Try.sz5p _ HD.out) ?_)
      | ((with_reducible refine wpE_store (o := ⟨none, _, _, _, _, _⟩) rfl 43 (.tmp 1) (.tmp 19) rfl 1 g1 43 (natsC (digL 5 m)) (natsC [y, 0, 0, 0, 0]) (by with_unfolding_all rfl) (by with_unfolding_all rfl) (by with_unfolding_all exact lessV y) (natsC_same HD.out (less_length y)) (sizeN Try.sz5p _ (less_length y)) (natsC_one _) E5 ?_); intro w6 E6; simp only [List.set_cons_zero, List.set_cons_succ] at E6)
      | (with_reducible refine wpE_load (o := ⟨some 20, _, _, _, _, _⟩) rfl 43 (.tmp 1) rfl 1 g1 43 (natsC [y, 0, 0, 0, 0]) (.array 5 39) (by with_unfolding_all rfl) (by with_unfolding_all rfl) Try.underlying43 rfl (sizeN Try.sz5p _ (less_length y)) E6 ?_)
      | (with_reducible refine wpList_build1 (o := ⟨some 21, _, _, _, _, _⟩) rfl 45 (.tmp 20) rfl (natsC [y, 0, 0, 0, 0]) (by with_unfolding_all rfl) _ 5 _ Try.underlying45 rfl Try.sz5p Try.zero5e rfl (by rw [natsC_size, (less_length y)]) ?_)
      | ((with_reducible refine wpE_store (o := ⟨none, _, _, _, _, _⟩) rfl 45 (.tmp 2) (.tmp 21) rfl 0 g2 45 (natsC zero5) (natsC [y, 0, 0, 0, 0]) (by with_unfolding_all rfl) (by with_unfolding_all rfl) (by with_unfolding_all rfl) (natsC_same zero5_length (less_length y)) (sizeN Try.sz5e _ (less_length y)) (natsC_one _) E6 ?_); intro w9 E9))
    refine bodyPost_ret (results_cell_row rfl _ _ g2 45 (natsC [y, 0, 0, 0, 0]) (0, 0) _ rfl (E9.row 0 rfl) Try.underlying45 rfl (sizeN Try.sz5e _ (less_length y))) rfl ?_
    rw [← HO.out]
    exact E9.ret _
  · have hQ := HEQ.out false (by simpa using heq)
    have HO := Lib.hid hout
    have hgb : decide ((2251799813685229 : Int) ≤ (x : Int)) = true := by rw [decide_eq_true_eq]; omega
    clear heq hout HEQ
    go_wp2_with (first
      | ((with_reducible refine wpE_store (o := ⟨none, _, _, _, _, _⟩) rfl 43 (.tmp 1) (.tmp 5) rfl 1 g1 43 (natsC l) (natsC (digL 5 m)) (by with_unfolding_all rfl) (by with_unfolding_all rfl) (by with_unfolding_all rfl) (natsC_same HL.out HD.out) (sizeN Try.sz5p _ HD.out) (natsC_one _) E4.out ?_); intro w5 E5; simp only [List.set_cons_zero, List.set_cons_succ] at E5; have c1 := E5.getN 1 rfl 0 (by rw [HD.out]; omega); rw [H0.out] at c1)
      | (with_reducible refine wpListG_load_row (o := ⟨some 10, _, _, _, _, _⟩) 43 (.tmp 1) rfl (by with_unfolding_all go_simp) g1 (by with_unfolding_all rfl) 43 (natsC (digL 5 m)) (.array 5 39) (E5.row 1 rfl) Try.underlying43 rfl (sizeN Try.sz5p _ HD.out) ?_)
      | (with_reducible refine wpE_load (o := ⟨some 20, _, _, _, _, _⟩) rfl 43 (.tmp 1) rfl 1 g1 43 (natsC (digL 5 m)) (.array 5 39) (by with_unfolding_all rfl) (by with_unfolding_all rfl) Try.underlying43 rfl (sizeN Try.sz5p _ HD.out) E5 ?_)
      | (with_reducible refine wpList_build1 (o := ⟨some 21, _, _, _, _, _⟩) rfl 45 (.tmp 20) rfl (natsC (digL 5 m)) (by with_unfolding_all rfl) _ 5 _ Try.underlying45 rfl Try.sz5p Try.zero5e rfl (by rw [natsC_size, HD.out]) ?_)
      | ((with_reducible refine wpE_store (o := ⟨none, _, _, _, _, _⟩) rfl 45 (.tmp 2) (.tmp 21) rfl 0 g2 45 (natsC zero5) (natsC (digL 5 m)) (by with_unfolding_all rfl) (by with_unfolding_all rfl) (by with_unfolding_all rfl) (natsC_same zero5_length HD.out) (sizeN Try.sz5e _ HD.out) (natsC_one _) E5 ?_); intro w9 E9))
    refine bodyPost_ret (results_cell_row rfl _ _ g2 45 (natsC (digL 5 m)) (0, 0) _ rfl (E9.row 0 rfl) Try.underlying45 rfl (sizeN Try.sz5e _ HD.out)) rfl ?_
    rw [← HO.out]
    exact E9.ret _
  · have HO := Lib.hid hout
    have hgb : decide ((2251799813685229 : Int) ≤ (x : Int)) = false := by rw [decide_eq_false_iff_not]; omega
    clear hout HEQ
    go_wp2_with (first
      | ((with_reducible refine wpE_store (o := ⟨none, _, _, _, _, _⟩) rfl 43 (.tmp 1) (.tmp 5) rfl 1 g1 43 (natsC l) (natsC (digL 5 m)) (by with_unfolding_all rfl) (by with_unfolding_all rfl) (by with_unfolding_all rfl) (natsC_same HL.out HD.out) (sizeN Try.sz5p _ HD.out) (natsC_one _) E4.out ?_); intro w5 E5; simp only [List.set_cons_zero, List.set_cons_succ] at E5; have c1 := E5.getN 1 rfl 0 (by rw [HD.out]; omega); rw [H0.out] at c1)
      | (with_reducible refine wpE_load (o := ⟨some 20, _, _, _, _, _⟩) rfl 43 (.tmp 1) rfl 1 g1 43 (natsC (digL 5 m)) (.array 5 39) (by with_unfolding_all rfl) (by with_unfolding_all rfl) Try.underlying43 rfl (sizeN Try.sz5p _ HD.out) E5 ?_)
      | (with_reducible refine wpList_build1 (o := ⟨some 21, _, _, _, _, _⟩) rfl 45 (.tmp 20) rfl (natsC (digL 5 m)) (by with_unfolding_all rfl) _ 5 _ Try.underlying45 rfl Try.sz5p Try.zero5e rfl (by rw [natsC_size, HD.out]) ?_)
      | ((with_reducible refine wpE_store (o := ⟨none, _, _, _, _, _⟩) rfl 45 (.tmp 2) (.tmp 21) rfl 0 g2 45 (natsC zero5) (natsC (digL 5 m)) (by with_unfolding_all rfl) (by with_unfolding_all rfl) (by with_unfolding_all rfl) (natsC_same zero5_length HD.out) (sizeN Try.sz5e _ HD.out) (natsC_one _) E5 ?_); intro w9 E9))
    refine bodyPost_ret (results_cell_row rfl _ _ g2 45 (natsC (digL 5 m)) (0, 0) _ rfl (E9.row 0 rfl) Try.underlying45 rfl (sizeN Try.sz5e _ HD.out)) rfl ?_
    rw [← HO.out]
    exact E9.ret _
end Go.Proofs.Ytpgjcmccfpjmoaa
end
section
namespace Go.Proofs.Ytpgjcmccfpjmoaa
open Go.RowKit
set_option linter.unusedVariables false
set_option maxRecDepth 20000

theorem and32n (a : Nat) (ha : a < 18446744073709551616) : bits .and .u64 (a : Int) 4294967295 = ((a % 4294967296 : Nat) : Int) := by
  have h := u64_and_nat a 4294967295 ha (by omega)
  rw [show ((4294967295 : Nat) : Int) = 4294967295 from rfl] at h
  rw [h]
  congr 1
  exact Nat.and_two_pow_sub_one_eq_mod a 32
theorem div32n (a : Nat) : (a : Int) / 4294967296 = ((a / 4294967296 : Nat) : Int) := by omega
theorem muln (a b : Nat) : (a : Int) * (b : Int) = ((a * b : Nat) : Int) := (Int.natCast_mul a b).symm
theorem addn (a b : Nat) : (a : Int) + (b : Int) = ((a + b : Nat) : Int) := (Int.natCast_add a b).symm
theorem wrapm (a : Nat) : IntKind.u64.wrap (a : Int) = ((a % 18446744073709551616 : Nat) : Int) := by rw [IntKind.wrap_u64]; omega

set_option maxHeartbeats 1000000 in
theorem Mul64_any (x y : Nat) (hx : x < 18446744073709551616) (hy : y < 18446744073709551616) (w : World) :
    Calls Try.prog 69 #[.int .u64 (x : Int), .int .u64 (y : Int)] w fun e w' => e = .returned (.tuple #[.int .u64 ((x * y / 18446744073709551616 : Nat) : Int), .int .u64 ((x * y % 18446744073709551616 : Nat) : Int)]) ∧ w = w' := by
  obtain ⟨bd, bt, bw, hhi⟩ := Lib.mul64_hi x y hx hy
  have ba := Lib.half_mul_le (a := x / 4294967296) (b := y / 4294967296) (by omega) (by omega)
  have bb := Lib.half_mul_le (a := x / 4294967296) (b := y % 4294967296) (by omega) (by omega)
  have bc := Lib.half_mul_le (a := x % 4294967296) (b := y / 4294967296) (by omega) (by omega)
  have ba' : x / 4294967296 * (y / 4294967296) < 18446744073709551616 := by omega
  have bb' : x / 4294967296 * (y % 4294967296) < 18446744073709551616 := by omega
  have bc' : x % 4294967296 * (y / 4294967296) < 18446744073709551616 := by omega
  have bh1 : x / 4294967296 * (y / 4294967296) + (x / 4294967296 * (y % 4294967296) + x % 4294967296 * (y % 4294967296) / 4294967296) / 4294967296 < 18446744073709551616 := by omega
  have bh : x / 4294967296 * (y / 4294967296) + (x / 4294967296 * (y % 4294967296) + x % 4294967296 * (y % 4294967296) / 4294967296) / 4294967296 + ((x / 4294967296 * (y % 4294967296) + x % 4294967296 * (y % 4294967296) / 4294967296) % 4294967296 + x % 4294967296 * (y / 4294967296)) / 4294967296 < 18446744073709551616 := by omega
  go_enter Try.func69, Try.ntmps69
  go_wp2
  simp only [and32n x hx, and32n y hy, div32n, muln, addn, wrap64 _ bd, wrap64 _ bb', wrap64 _ bt, and32n _ bt, wrap64 _ bc', wrap64 _ bw, wrap64 _ ba', wrap64 _ bh1, wrap64 _ bh, wrapm (x * y)]
  rw [hhi]
  go_ret2
  exact ⟨rfl, rfl⟩

theorem Add64_run (x y c s d : Nat) (hc : c ≤ 1) (hs : s = (x + y + c) % 18446744073709551616) (hd : d = (x + y + c) / 18446744073709551616) (w : World) :
    (callFunc 70 #[.int .u64 (x : Int), .int .u64 (y : Int), .int .u64 (c : Int)]).run Try.prog w = .ok (.value (.tuple #[.int .u64 (s : Int), .int .u64 (d : Int)])) w := by
  subst hs hd
  rw [run_callFunc_extern Try.func70 (by kernel_rfl) (by kernel_rfl) (by kernel_rfl) (e := add64Entry) (by kernel_rfl), run_add64 x y c (by omega) (by omega) (by omega) (by omega)]
  simp only [Result.andThen]
  congr 5 <;> omega

/-- A sum of products, as two words. -/
def wideL (n : Nat) : List Nat := [n / 18446744073709551616, n % 18446744073709551616]
theorem wideL_length (n : Nat) : (wideL n).length = 2 := rfl
theorem Try.sz2 : (Try.prog.info? 96).map (·.size) = some 2 := by kernel_rfl
theorem Try.zero2 : (Try.prog.info? 96).map (·.zero) = some (some (.agg (natsC [0, 0]))) := by kernel_rfl
theorem two_length (a b : Nat) : [a, b].length = 2 := rfl
theorem twoV (a b : Nat) : Value.agg #[.int .u64 (a : Int), .int .u64 (b : Int)] = .agg (natsC [a, b]) := rfl

set_option maxHeartbeats 1000000 in
theorem plus_any (n a b : Nat) (ha : a < 18446744073709551616) (hb : b < 18446744073709551616) (hn : n + a * b < 340282366920938463463374607431768211456) (w : World) :
    Calls Try.prog 57 #[.agg (natsC (wideL n)), .int .u64 (a : Int), .int .u64 (b : Int)] w (RetV w (.agg (natsC (wideL (n + a * b))))) := by
  have M1 := Lib.hid (fun w => Mul64_any a b ha hb w)
  obtain ⟨m, hm⟩ : ∃ m, m = a * b := ⟨_, rfl⟩
  rw [← hm] at M1 hn ⊢
  clear hm
  obtain ⟨h, hh⟩ : ∃ h, h = n / 18446744073709551616 := ⟨_, rfl⟩
  obtain ⟨l, hl⟩ : ∃ l, l = n % 18446744073709551616 := ⟨_, rfl⟩
  obtain ⟨mh, hmh⟩ : ∃ h, h = m / 18446744073709551616 := ⟨_, rfl⟩
  obtain ⟨ml, hml⟩ : ∃ l, l = m % 18446744073709551616 := ⟨_, rfl⟩
  obtain ⟨s, hs⟩ : ∃ s, s = (l + ml + 0) % 18446744073709551616 := ⟨_, rfl⟩
  obtain ⟨c, hc⟩ : ∃ c, c = (l + ml + 0) / 18446744073709551616 := ⟨_, rfl⟩
  obtain ⟨t, ht⟩ : ∃ t, t = (h + mh + c) % 18446744073709551616 := ⟨_, rfl⟩
  obtain ⟨d, hd⟩ : ∃ d, d = (h + mh + c) / 18446744073709551616 := ⟨_, rfl⟩
  have e0 : wideL n = [h, l] := by unfold wideL; rw [← hh, ← hl]
  have e1 : wideL (n + m) = [t, s] := by
    unfold wideL
    simp only [List.cons.injEq, and_true]
    omega
  rw [← hmh, ← hml] at M1
  rw [e0, e1]
  have A1 : ∀ W, (callFunc 70 #[.int .u64 (l : Int), .int .u64 (ml : Int), .int .u64 0]).run Try.prog W = .ok (.value (.tuple #[.int .u64 (s : Int), .int .u64 (c : Int)])) W := fun W => Add64_run l ml 0 s c (by omega) hs hc W
  have A2 : ∀ W, (callFunc 70 #[.int .u64 (h : Int), .int .u64 (mh : Int), .int .u64 (c : Int)]).run Try.prog W = .ok (.value (.tuple #[.int .u64 (t : Int), .int .u64 (d : Int)])) W := fun W => Add64_run h mh c t d (by omega) ht hd W
  clear hh hl hmh hml hs hc ht hd e0 e1 hn
  have E0 := Env.start w
  go_enter Try.func57, Try.ntmps57
  go_wp2_with (first
    | ((with_reducible refine wpE_box (o := ⟨some 3, _, _, _, _, _⟩) rfl 96 (.tmp 0) rfl (natsC [h, l]) (by with_unfolding_all rfl) E0 ?_); intro g1 w1 E1)
    | ((with_reducible refine wpE_alloc (o := ⟨some 6, _, _, _, _, _⟩) rfl 96 rfl (natsC [0, 0]) Try.zero2 E1 ?_); intro g2 w2 E2; have c1 := E2.getN 1 rfl 0 (by simp); have c2 := E2.getN 1 rfl 1 (by simp); simp only [List.getD_cons_zero, List.getD_cons_succ] at c1 c2; clear E0 E1)
    | ((with_reducible refine (M1.out _).mono ?_); rintro e w3 ⟨rfl, rfl⟩)
    | ((with_reducible refine wpE_store (o := ⟨none, _, _, _, _, _⟩) rfl 96 (.tmp 6) (.tmp 33) rfl 0 g2 96 (natsC [0, 0]) (natsC [t, s]) (by with_unfolding_all rfl) (by with_unfolding_all rfl) (by with_unfolding_all exact twoV t s) (natsC_same (two_length 0 0) (two_length t s)) (sizeN Try.sz2 _ (two_length t s)) (natsC_one _) E2 ?_); intro w9 E9))
  exact bodyPost_ret (results_cell_row rfl _ _ g2 96 (natsC [t, s]) (0, 0) _ rfl (E9.row 0 rfl) Try.underlying96 rfl (sizeN Try.sz2 _ (two_length t s))) rfl (E9.ret _)

/-- Sums of products in a row. -/
def widesL (ws : List Nat) : List Nat := ws.flatMap wideL
theorem widesL_length (ws : List Nat) : (widesL ws).length = 2 * ws.length := by
  induction ws with
  | nil => rfl
  | cons a ws ih => simp only [widesL, List.flatMap_cons, List.length_append, wideL_length, List.length_cons] at *; omega
theorem widesL_part (ws : List Nat) (k : Nat) (h : k < ws.length) : ((widesL ws).drop (2 * k)).take 2 = wideL (ws.getD k 0) := by
  induction ws generalizing k with
  | nil => simp at h
  | cons a ws ih =>
    cases k with
    | zero => simp [widesL, wideL]
    | succ k =>
      have := ih k (by simpa using h)
      simpa [widesL, wideL, Nat.mul_add] using this
theorem widesL_set (ws : List Nat) (k n : Nat) (h : k < ws.length) : (widesL ws).take (2 * k) ++ wideL n ++ (widesL ws).drop (2 * k + 2) = widesL (ws.set k n) := by
  induction ws generalizing k with
  | nil => simp at h
  | cons a ws ih =>
    cases k with
    | zero => simp [widesL, wideL]
    | succ k =>
      have := ih k (by simpa using h)
      simpa [widesL, wideL, Nat.mul_add] using this
theorem Try.sz10 : (Try.prog.info? 97).map (·.size) = some 10 := by kernel_rfl
def zero10 : List Nat := [0, 0, 0, 0, 0, 0, 0, 0, 0, 0]
theorem zero10_length : zero10.length = 10 := rfl
theorem Try.zero10 : (Try.prog.info? 97).map (·.zero) = some (some (.agg (natsC zero10))) := by kernel_rfl
theorem index_wide (w : World) (ws : List Nat) (hl : ws.length = 5) (k : Nat) (hk : k < 5) : (Instr.index 97 (.agg (natsC (widesL ws))) (.int .i64 (k : Int))).run Try.prog w = .ok (.agg (natsC (wideL (ws.getD k 0)))) w := by
  rw [run_index_struct w 97 96 5 2 _ _ .i64 k Try.underlying97 Try.underlying96 Try.sz2 hk]
  congr 2
  apply Array.toList_inj.1
  rw [Array.toList_extract]
  have := widesL_part ws k (by omega)
  rw [← this]
  simp [natsC, cellsN, List.extract, Nat.mul_comm]

/-- What is made of the first k sums, and zeros behind them. -/
def stN (ws : List Nat) (k : Nat) : List Nat := digL k (valL (ws.take k)) ++ List.replicate (5 - k) 0
theorem stN_length (ws : List Nat) (k : Nat) (h : k ≤ 5) : (stN ws k).length = 5 := by simp [stN, digL_length]; omega
theorem stN_step (ws : List Nat) (hl : ws.length = 5) (k : Nat) (h : k < 5) : (stN ws k).set k ((ws.getD k 0 + cyC ws k) % Mx) = stN ws (k + 1) := by
  unfold stN
  rw [List.set_append_right _ _ (by rw [digL_length]; exact Nat.le_refl _), digL_length, Nat.sub_self, digL_snoc, take_val ws k (by omega), digL_mod, List.append_assoc]
  congr 1
  rw [show 5 - k = (5 - (k + 1)) + 1 by omega, List.replicate_succ, List.set_cons_zero]
  have e : (valL (ws.take k) + Mx ^ k * ws.getD k 0) / Mx ^ k % Mx = (ws.getD k 0 + cyC ws k) % Mx := by
    rw [Nat.add_mul_div_left _ _ (Nat.pow_pos Mx_pos), Nat.add_comm]
    rfl
  rw [e]
  rfl
end Go.Proofs.Ytpgjcmccfpjmoaa
end
section
namespace Go.Proofs.Ytpgjcmccfpjmoaa
open Go.RowKit
set_option linter.unusedVariables false
set_option maxRecDepth 20000

theorem low_digit (s : Nat) : s % 18446744073709551616 % 2251799813685248 = s % Mx := by unfold Mx; omega
theorem shift_digit (s : Nat) : s / 18446744073709551616 * 8192 + s % 18446744073709551616 / 2251799813685248 = s / Mx := by unfold Mx; omega

set_option maxHeartbeats 2000000 in
theorem narrowed_any (ws : List Nat) (hl : ws.length = 5) (hB : ∀ x ∈ ws, x < 5192296858534827628530496329220096) (h5 : cyC ws 5 < 288230376151711744) (w : World) :
    Calls Try.prog 58 #[.agg (natsC (widesL ws))] w (RetV w (.agg (natsC (carriedL ws)))) := by
  have HL := Lib.hid hl
  have HB := Lib.hid hB
  have H5 := Lib.hid h5
  have hwl : (widesL ws).length = 10 := by rw [widesL_length, hl]
  have HW := Lib.hid hwl
  have P1 : Hid (∀ (n a : Nat), a < 18446744073709551616 → n + a < 340282366920938463463374607431768211456 → ∀ w, Calls Try.prog 57 #[.agg (natsC (wideL n)), .int .u64 (a : Int), .int .u64 1] w (RetV w (.agg (natsC (wideL (n + a)))))) := fun n a ha hn w => by
    have := plus_any n a 1 ha (by omega) (by omega) w
    rwa [Nat.mul_one] at this
  clear hl hB h5 hwl
  have E0 := Env.start w
  go_enter Try.func58, Try.ntmps58
  go_wp2_with (first
    | ((with_reducible refine wpE_box (o := ⟨some 1, _, _, _, _, _⟩) rfl 97 (.tmp 0) rfl (natsC (widesL ws)) (by with_unfolding_all rfl) E0 ?_); intro g1 w1 E1)
    | ((with_reducible refine wpE_alloc (o := ⟨some 2, _, _, _, _, _⟩) rfl 43 rfl (natsC zero5) Try.zero5p E1 ?_); intro g2 w2 E2)
    | ((with_reducible refine wpE_alloc (o := ⟨some 3, _, _, _, _, _⟩) rfl 43 rfl (natsC zero5) Try.zero5p E2 ?_); intro g3 w3 E3)
    | (with_reducible refine wpE_load (o := ⟨some 7, _, _, _, _, _⟩) rfl 97 (.tmp 1) rfl 2 g1 97 (natsC (widesL ws)) _ (by with_unfolding_all rfl) (by with_unfolding_all rfl) Try.underlying97 rfl (sizeN Try.sz10 _ HW.out) E3 ?_))
  have E4 := Lib.hid E3
  clear E0 E1 E2 E3
  go_loopw [4, 8] (fun c i wr => ∃ k : Nat, k ≤ 5 ∧ i = .int .i64 k ∧ c = .int .u64 ((cyC ws k : Nat) : Int) ∧ Env w [(g3, 43, natsC (stN ws k)), (g2, 43, natsC zero5)] wr) (fun _ i _ => 5 - (intOf i).toNat)
  case atStart => exact ⟨0, by omega, rfl, by rw [cyC_zero]; rfl, E4.out.less (by simp [stN, digL, zero5, List.replicate])⟩
  case round =>
    clear E4
    obtain ⟨k, hk, rfl, rfl, hE⟩ := hrel
    have E := Lib.hid hE
    clear hE
    by_cases hlt : k < 5
    · have hix := fun W => index_wide W ws HL.out k hlt
      have hx := getD_lt HB.out (by omega) k
      have hc := cyC_lt ws _ HB.out (by omega) k (by rw [HL.out]; omega)
      have hc2 : cyC ws k < 4611686018427387904 := by unfold Mx at hc; omega
      have hstep := stN_step ws HL.out k hlt
      have hcy := cyC_succ ws k (by rw [HL.out]; omega)
      have hsl := stN_length ws k hk
      generalize ws.getD k 0 = x at hix hx hstep hcy
      generalize cyC ws k = c at hc2 hstep hcy ⊢
      have C1 := Lib.hid (P1.out x c (by omega) (by omega))
      obtain ⟨s, hs⟩ : ∃ s, s = x + c := ⟨_, rfl⟩
      rw [← hs] at C1 hstep hcy
      have hsl2 : s < 10384593717069655257060992658440192 := by omega
      obtain ⟨c', hc'⟩ : ∃ c', c' = cyC ws (k + 1) := ⟨_, rfl⟩
      rw [← hc'] at hcy
      have HC := Lib.hid hc'
      obtain ⟨hi, hhi⟩ : ∃ h, h = s / 18446744073709551616 := ⟨_, rfl⟩
      obtain ⟨lo, hlo⟩ : ∃ h, h = s % 18446744073709551616 := ⟨_, rfl⟩
      have hwd : wideL s = [hi, lo] := by unfold wideL; rw [← hhi, ← hlo]
      rw [hwd] at C1
      have hand := and51 lo (by omega)
      have hd : lo % 2251799813685248 = s % Mx := by rw [hlo]; exact low_digit s
      rw [hd] at hand
      rw [← hd] at hstep
      have hor := or64r (lo / 2251799813685248) (hi * 8192) 13 (by omega) (by omega) (by omega) (by omega)
      have hcc : lo / 2251799813685248 + hi * 8192 = c' := by rw [hcy, hhi, hlo]; have := shift_digit s; omega
      rw [hcc] at hor
      have hhb : hi < 562949953421312 := by omega
      have hlb : lo < 18446744073709551616 := by omega
      obtain ⟨q, hq⟩ : ∃ q, q = lo / 2251799813685248 := ⟨_, rfl⟩
      have hq1 : (lo : Int) / 2251799813685248 = (q : Int) := by omega
      obtain ⟨r, hr⟩ : ∃ r, r = hi * 8192 := ⟨_, rfl⟩
      have hr1 : (hi : Int) * 8192 = (r : Int) := by omega
      have hrl : r < 18446744073709551616 := by omega
      rw [← hq, ← hr] at hor
      obtain ⟨y, hy⟩ : ∃ y, y = s % Mx := ⟨_, rfl⟩
      rw [hd] at hstep
      rw [← hy] at hand hstep
      have HS := Lib.hid hstep
      have HSL := Lib.hid hsl
      have hk5 : (k : Int) < 5 := by omega
      clear hs hc' hhi hlo hwd hd hcc hq hr hy hstep hcy hsl hc hsl2 hx hc2
      go_wp2_with (first
        | ((with_reducible refine wpE_alloc (o := ⟨some 6, _, _, _, _, _⟩) rfl 96 rfl (natsC [0, 0]) Try.zero2 E.out ?_); intro g4 w4 E5)
        | ((with_reducible refine wpE_store (o := ⟨none, _, _, _, _, _⟩) rfl 96 (.tmp 6) (.tmp 11) rfl 0 g4 96 (natsC [0, 0]) (natsC (wideL x)) (by with_unfolding_all rfl) (by with_unfolding_all rfl) (by with_unfolding_all rfl) (natsC_same (two_length 0 0) (wideL_length x)) (sizeN Try.sz2 _ (wideL_length x)) (natsC_one _) E5 ?_); intro w5 E6; simp only [List.set_cons_zero] at E6; clear E5)
        | (with_reducible refine wpE_load (o := ⟨some 12, _, _, _, _, _⟩) rfl 96 (.tmp 6) rfl 0 g4 96 (natsC (wideL x)) _ (by with_unfolding_all rfl) (by with_unfolding_all rfl) Try.underlying96 rfl (sizeN Try.sz2 _ (wideL_length x)) E6 ?_)
        | ((with_reducible refine (C1.out _).mono ?_); rintro e w6 ⟨rfl, b6⟩; have E7 := Lib.hid (E6.call b6); clear b6 E6)
        | ((with_reducible refine wpE_store (o := ⟨none, _, _, _, _, _⟩) rfl 96 (.tmp 6) (.tmp 14) rfl 0 g4 96 (natsC (wideL x)) (natsC [hi, lo]) (by with_unfolding_all rfl) (by with_unfolding_all rfl) (by with_unfolding_all rfl) (natsC_same (wideL_length x) (two_length hi lo)) (sizeN Try.sz2 _ (two_length hi lo)) (natsC_one _) E7.out ?_); intro w7 E8; simp only [List.set_cons_zero] at E8; clear E7; have c1 := E8.getN 0 rfl 0 (by simp); have c2 := E8.getN 0 rfl 1 (by simp); simp only [List.getD_cons_zero, List.getD_cons_succ] at c1 c2; have c3 := E8.getN 1 rfl k (by rw [HSL.out]; exact hlt); have f3 := E8.fzN 1 rfl k; generalize (stN ws k).getD k 0 = old at c3; have E9 := E8.cellN 1 rfl k y; simp only [List.set_cons_zero, List.set_cons_succ] at E9; rw [HS.out] at E9; have c4 := E9.getN 0 rfl 0 (by simp); have c5 := E9.getN 0 rfl 1 (by simp); simp only [List.getD_cons_zero, List.getD_cons_succ] at c4 c5; have HE9 := Lib.hid (E9.less (List.sublist_cons_self _ _)); clear E9 E8))
      go_roundw
      case rel => exact ⟨k + 1, by omega, by go_num, by rw [HC.out], HE9.out⟩
      case measure => simp [intOf]; omega
    · have hk5 : k = 5 := by omega
      have e1 : stN ws k = digL 5 (valL ws) := by
        rw [hk5]
        unfold stN
        rw [List.take_of_length_le (by rw [HL.out]; omega)]
        simp
      have e2 : cyC ws k = valL ws / Mx ^ 5 := by rw [hk5]; unfold cyC; rw [List.take_of_length_le (by rw [HL.out]; omega)]
      have hsl : (stN ws k).length = 5 := by rw [e1, digL_length]
      have hfin : (stN ws k).set 0 ((stN ws k).getD 0 0 + 19 * cyC ws k) = carriedL ws := by rw [e1, e2]; rfl
      have c1 := E.out.getN 0 rfl 0 (by rw [hsl]; omega)
      have f1 := E.out.fzN 0 rfl 0
      have hd2 : (stN ws k).getD 0 0 < 2251799813685248 := by rw [e1]; exact getD_lt (digL_lt 5 _) Mx_pos 0
      have hc2 : cyC ws k < 288230376151711744 := by rw [hk5]; exact H5.out
      have E3 := E.out.cellN 0 rfl 0 ((stN ws k).getD 0 0 + 19 * cyC ws k)
      simp only [List.set_cons_zero] at E3
      rw [hfin] at E3
      have HE := Lib.hid E3
      clear E3 E hfin hsl e1 e2 hk5
      generalize (stN ws k).getD 0 0 = x at c1 hd2 HE
      generalize cyC ws k = c at hc2 HE ⊢
      have hx : x + 19 * c < 18446744073709551616 := by omega
      obtain ⟨s, hs⟩ : ∃ s, s = x + 19 * c := ⟨_, rfl⟩
      have hsum : (x : Int) + 19 * (c : Int) = (s : Int) := by omega
      rw [← hs] at HE hx
      clear hs
      go_wp2_with (first
        | (with_reducible refine wpE_load (o := ⟨some 34, _, _, _, _, _⟩) rfl 43 (.tmp 3) rfl 0 g3 43 (natsC (carriedL ws)) (.array 5 39) (by with_unfolding_all rfl) (by with_unfolding_all rfl) Try.underlying43 rfl (sizeN Try.sz5p _ (carriedL_length ws)) HE.out ?_)
        | ((with_reducible refine wpE_store (o := ⟨none, _, _, _, _, _⟩) rfl 43 (.tmp 2) (.tmp 34) rfl 1 g2 43 (natsC zero5) (natsC (carriedL ws)) (by with_unfolding_all rfl) (by with_unfolding_all rfl) (by with_unfolding_all rfl) (natsC_same zero5_length (carriedL_length ws)) (sizeN Try.sz5p _ (carriedL_length ws)) (natsC_one _) HE.out ?_); intro w9 E9))
      exact bodyPost_ret (results_cell_row rfl _ _ g2 43 (natsC (carriedL ws)) (0, 0) (.array 5 39) rfl (E9.row 1 rfl) Try.underlying43 rfl (sizeN Try.sz5p _ (carriedL_length ws))) rfl (E9.ret _)
end Go.Proofs.Ytpgjcmccfpjmoaa
end
section
namespace Go.Proofs.Ytpgjcmccfpjmoaa
open Go.RowKit
set_option linter.unusedVariables false
set_option maxRecDepth 20000

/-- The first k of z, and behind them what x has. -/
def stP (z x : List Nat) (k : Nat) : List Nat := z.take k ++ x.drop k
theorem stP_zero (z x : List Nat) : stP z x 0 = x := by simp [stP]
theorem stP_all (z x : List Nat) {n : Nat} (hz : z.length = n) (hx : x.length = n) : stP z x n = z := by
  unfold stP
  rw [List.take_of_length_le (by omega), List.drop_eq_nil_of_le (by omega), List.append_nil]
theorem stP_length (z x : List Nat) {n : Nat} (hz : z.length = n) (hx : x.length = n) (k : Nat) (hk : k ≤ n) : (stP z x k).length = n := by simp [stP]; omega
theorem stP_get (z x : List Nat) {n : Nat} (hz : z.length = n) (hx : x.length = n) (k : Nat) (hk : k < n) : (stP z x k).getD k 0 = x.getD k 0 := by
  simp only [stP, List.getD_eq_getElem?_getD]
  rw [List.getElem?_append_right (by simp; omega), List.getElem?_drop]
  congr 2
  simp
  omega
theorem stP_step (z x : List Nat) {n : Nat} (hz : z.length = n) (hx : x.length = n) (k : Nat) (hk : k < n) : (stP z x k).set k (z.getD k 0) = stP z x (k + 1) := by
  unfold stP
  rw [List.set_append_right _ _ (by simp; omega), List.length_take_of_le (by omega), Nat.sub_self, List.drop_eq_getElem_cons (by omega), List.set_cons_zero]
  have e := List.take_succ_eq_append_getElem (l := z) (i := k) (by omega)
  have hg : z.getD k 0 = z[k]'(by omega) := by simp [show k < z.length by omega]
  rw [hg, e, List.append_assoc]
  rfl

def addL (x y : List Nat) : List Nat := List.zipWith (· + ·) x y
theorem addL_length {x y : List Nat} {n : Nat} (hx : x.length = n) (hy : y.length = n) : (addL x y).length = n := by simp [addL, hx, hy]
theorem addL_get {x y : List Nat} {n : Nat} (hx : x.length = n) (hy : y.length = n) (k : Nat) (hk : k < n) : (addL x y).getD k 0 = x.getD k 0 + y.getD k 0 := by
  simp [addL, List.getD_eq_getElem?_getD, List.getElem?_zipWith, show k < x.length by omega, show k < y.length by omega]
theorem addL_val : ∀ (x y : List Nat), x.length = y.length → valL (addL x y) = valL x + valL y
  | [], [], _ => rfl
  | a :: x, b :: y, h => by
    have ih := addL_val x y (by simpa using h)
    simp only [addL, List.zipWith_cons_cons, valL] at *
    rw [ih, Nat.mul_add]
    omega
theorem getD_of_mem {z : List Nat} {B n : Nat} (hz : z.length = n) (h : ∀ k, k < n → z.getD k 0 < B) : ∀ x ∈ z, x < B := by
  intro x hx
  obtain ⟨k, hk, rfl⟩ := List.mem_iff_getElem.1 hx
  have := h k (by omega)
  simpa [List.getD_eq_getElem?_getD, hk] using this

set_option maxHeartbeats 2000000 in
theorem Add_any (a b : Nat) (ha : a < pF) (hb : b < pF) (w : World) :
    Calls Try.prog 54 #[.agg (natsC (elemL a)), .agg (natsC (elemL b))] w (RetV w (.agg (natsC (elemL ((a + b) % pF))))) := by
  obtain ⟨x, hx⟩ : ∃ x, x = elemL a := ⟨_, rfl⟩
  obtain ⟨y, hy⟩ : ∃ y, y = elemL b := ⟨_, rfl⟩
  obtain ⟨z, hz⟩ : ∃ z, z = addL x y := ⟨_, rfl⟩
  have hxl : x.length = 5 := by rw [hx, elemL_length]
  have hyl : y.length = 5 := by rw [hy, elemL_length]
  have hzl : z.length = 5 := by rw [hz, addL_length hxl hyl]
  have hzg : ∀ k, k < 5 → z.getD k 0 = x.getD k 0 + y.getD k 0 := fun k hk => by rw [hz, addL_get hxl hyl k hk]
  have hxb : ∀ k, x.getD k 0 < 2251799813685248 := fun k => getD_lt (by rw [hx]; exact elemL_lt a) Mx_pos k
  have hyb : ∀ k, y.getD k 0 < 2251799813685248 := fun k => getD_lt (by rw [hy]; exact elemL_lt b) Mx_pos k
  have hval : valL z % pF = (a + b) % pF := by rw [hz, addL_val x y (by omega), hx, hy, elemL_val a ha, elemL_val b hb]
  have R := Lib.hid (fun w => reduced_any w z hzl (getD_of_mem hzl fun k hk => by have := hxb k; have := hyb k; rw [hzg k hk]; omega))
  rw [hval] at R
  rw [← hx, ← hy]
  have HXL := Lib.hid hxl
  have HYL := Lib.hid hyl
  have HZL := Lib.hid hzl
  have HZG := Lib.hid hzg
  have HXB := Lib.hid hxb
  have HYB := Lib.hid hyb
  clear hx hy hz hxl hyl hzl hzg hxb hyb hval
  have E0 := Env.start w
  go_enter Try.func54, Try.ntmps54
  go_wp2_with (first
    | ((with_reducible refine wpE_box (o := ⟨some 2, _, _, _, _, _⟩) rfl 45 (.tmp 0) rfl (natsC x) (by with_unfolding_all rfl) E0 ?_); intro g1 w1 E1)
    | ((with_reducible refine wpE_box (o := ⟨some 3, _, _, _, _, _⟩) rfl 45 (.tmp 1) rfl (natsC y) (by with_unfolding_all rfl) E1 ?_); intro g2 w2 E2)
    | ((with_reducible refine wpE_alloc (o := ⟨some 4, _, _, _, _, _⟩) rfl 45 rfl (natsC zero5) Try.zero5e E2 ?_); intro g3 w3 E3))
  have E4 := Lib.hid E3
  clear E0 E1 E2 E3
  go_loopw [6] (fun i wr => ∃ k : Nat, k ≤ 5 ∧ i = .int .i64 k ∧ Env w [(g3, 45, natsC zero5), (g2, 45, natsC y), (g1, 45, natsC (stP z x k))] wr) (fun i _ => 5 - (intOf i).toNat)
  case atStart => exact ⟨0, by omega, rfl, by rw [stP_zero]; exact E4.out⟩
  case round =>
    clear E4
    obtain ⟨k, hk, rfl, hE⟩ := hrel
    have E := Lib.hid hE
    clear hE
    by_cases hlt : k < 5
    · have c1 := E.out.getN 2 rfl k (by rw [stP_length z x HZL.out HXL.out k hk]; exact hlt)
      rw [stP_get z x HZL.out HXL.out k hlt] at c1
      have c2 := E.out.getN 1 rfl k (by rw [HYL.out]; exact hlt)
      have f1 := E.out.fzN 2 rfl k
      have hk5 : (k : Int) < 5 := by omega
      have hb1 := HXB.out k
      have hb2 := HYB.out k
      have hstep := stP_step z x HZL.out HXL.out k hlt
      rw [HZG.out k hlt] at hstep
      generalize x.getD k 0 = xv at c1 hb1 hstep
      generalize y.getD k 0 = yv at c2 hb2 hstep
      obtain ⟨s, hs⟩ : ∃ s, s = xv + yv := ⟨_, rfl⟩
      have hsum : IntKind.u64.wrap ((xv : Int) + (yv : Int)) = (s : Int) := by rw [IntKind.wrap_u64]; omega
      rw [← hs] at hstep
      have HS := Lib.hid hstep
      clear hs hstep
      go_wp2_with fail
      go_still_tail 11, (by kernel_rfl)
      change wpList _ _ _ _ _ wr.drew
      have c3 : wr.drew.cell? ⟨g1, k, none⟩ = some (.int .u64 (xv : Int)) := c1
      have f3 : wr.drew.frozen? ⟨g1, k, none⟩ = false := f1
      clear c1 c2 f1 hsum
      have E5 := E.out.drew.cellN 2 rfl k s
      simp only [List.set_cons_zero, List.set_cons_succ] at E5
      rw [HS.out] at E5
      have HE5 := Lib.hid E5
      clear E5 E
      go_wp2
      go_roundw
      case rel => exact ⟨k + 1, by omega, by go_num, HE5.out⟩
      case measure => simp [intOf]; omega
    · have hk5 : k = 5 := by omega
      have E5 := E.out
      rw [hk5, stP_all z x HZL.out HXL.out] at E5
      have E6 := Lib.hid E5
      clear E5 E hk5
      go_wp2_with (first
        | (with_reducible refine wpE_load (o := ⟨some 22, _, _, _, _, _⟩) rfl 43 (.tmp 21) rfl 2 g1 45 (natsC z) (.array 5 39) (by with_unfolding_all rfl) (by with_unfolding_all rfl) Try.underlying43 rfl (sizeN Try.sz5p _ HZL.out) E6.out ?_)
        | ((with_reducible refine (R.out _).mono ?_); rintro e w6 ⟨rfl, b6⟩; have E7 := E6.out.call b6)
        | ((with_reducible refine wpE_store (o := ⟨none, _, _, _, _, _⟩) rfl 45 (.tmp 4) (.tmp 23) rfl 0 g3 45 (natsC zero5) (natsC (elemL ((a + b) % pF))) (by with_unfolding_all rfl) (by with_unfolding_all rfl) (by with_unfolding_all rfl) (natsC_same zero5_length (elemL_length _)) (sizeN Try.sz5e _ (elemL_length _)) (natsC_one _) E7 ?_); intro w9 E9))
      exact bodyPost_ret (results_cell_row rfl _ _ g3 45 (natsC (elemL ((a + b) % pF))) (0, 0) _ rfl (E9.row 0 rfl) Try.underlying45 rfl (sizeN Try.sz5e _ (elemL_length _))) rfl (E9.ret _)
/-- Twice p, a part at a time; a difference, with that added. -/
def twiceL : List Nat := [4503599627370458, 4503599627370494, 4503599627370494, 4503599627370494, 4503599627370494]
theorem twiceL_length : twiceL.length = 5 := rfl
theorem twiceV : Value.agg #[.int .u64 4503599627370458, .int .u64 4503599627370494, .int .u64 4503599627370494, .int .u64 4503599627370494, .int .u64 4503599627370494] = .agg (natsC twiceL) := rfl
theorem twiceL_lt (k : Nat) : twiceL.getD k 0 < 4503599627370495 := getD_lt (B := 4503599627370495) (by decide) (by decide) k
theorem twiceL_ge (k : Nat) (h : k < 5) : 2251799813685248 ≤ twiceL.getD k 0 := by
  have : ∀ k, k < 5 → 2251799813685248 ≤ twiceL.getD k 0 := by decide
  exact this k h
def subL (x y : List Nat) : List Nat := addL x (List.zipWith (· - ·) twiceL y)
theorem subL_length {x y : List Nat} (hx : x.length = 5) (hy : y.length = 5) : (subL x y).length = 5 := addL_length hx (by simp [hy, twiceL_length])
theorem subL_get {x y : List Nat} (hx : x.length = 5) (hy : y.length = 5) (k : Nat) (hk : k < 5) : (subL x y).getD k 0 = x.getD k 0 + (twiceL.getD k 0 - y.getD k 0) := by
  unfold subL
  rw [addL_get hx (by simp [hy, twiceL_length]) k hk]
  congr 1
  simp [List.getD_eq_getElem?_getD, List.getElem?_zipWith, show k < twiceL.length by rw [twiceL_length]; exact hk, show k < y.length by omega]
theorem subL_val {x y : List Nat} (hx : x.length = 5) (hy : y.length = 5) (hb : ∀ k, y.getD k 0 < 2251799813685248) : valL (subL x y) + valL y = valL x + 2 * pF := by
  unfold subL
  rw [addL_val x _ (by simp [hy, hx, twiceL_length])]
  match y, hy with
  | [a, b, c, d, e], _ =>
    have h0 := hb 0
    have h1 := hb 1
    have h2 := hb 2
    have h3 := hb 3
    have h4 := hb 4
    simp only [List.getD_cons_zero, List.getD_cons_succ] at h0 h1 h2 h3 h4
    simp only [twiceL, List.zipWith_cons_cons, List.zipWith_nil_left, valL, Mx, pF]
    omega
/-- A difference modulo p. -/
def subF (a b : Nat) : Nat := (a + (pF - b)) % pF
theorem subF_lt (a b : Nat) : subF a b < pF := Nat.mod_lt _ (by decide)
theorem subF_of {a b z : Nat} (ha : a < pF) (hb : b < pF) (h : z + b = a + 2 * pF) : z % pF = subF a b := by
  unfold subF
  rw [show z = a + (pF - b) + pF by omega, Nat.add_mod_right]

set_option maxHeartbeats 2000000 in
theorem Sub_any (a b : Nat) (ha : a < pF) (hb : b < pF) (w : World) :
    Calls Try.prog 55 #[.agg (natsC (elemL a)), .agg (natsC (elemL b))] w (RetV w (.agg (natsC (elemL (subF a b))))) := by
  obtain ⟨x, hx⟩ : ∃ x, x = elemL a := ⟨_, rfl⟩
  obtain ⟨y, hy⟩ : ∃ y, y = elemL b := ⟨_, rfl⟩
  obtain ⟨z, hz⟩ : ∃ z, z = subL x y := ⟨_, rfl⟩
  have hxl : x.length = 5 := by rw [hx, elemL_length]
  have hyl : y.length = 5 := by rw [hy, elemL_length]
  have hzl : z.length = 5 := by rw [hz, subL_length hxl hyl]
  have hzg : ∀ k, k < 5 → z.getD k 0 = x.getD k 0 + (twiceL.getD k 0 - y.getD k 0) := fun k hk => by rw [hz, subL_get hxl hyl k hk]
  have hxb : ∀ k, x.getD k 0 < 2251799813685248 := fun k => getD_lt (by rw [hx]; exact elemL_lt a) Mx_pos k
  have hyb : ∀ k, y.getD k 0 < 2251799813685248 := fun k => getD_lt (by rw [hy]; exact elemL_lt b) Mx_pos k
  have hval : valL z % pF = subF a b := by
    have := subL_val hxl hyl hyb
    rw [← hz, hx, hy, elemL_val a ha, elemL_val b hb] at this
    exact subF_of ha hb this
  have R := Lib.hid (fun w => reduced_any w z hzl (getD_of_mem hzl fun k hk => by have := hxb k; have := twiceL_lt k; rw [hzg k hk]; omega))
  rw [hval] at R
  rw [← hx, ← hy]
  have HXL := Lib.hid hxl
  have HYL := Lib.hid hyl
  have HZL := Lib.hid hzl
  have HZG := Lib.hid hzg
  have HXB := Lib.hid hxb
  have HYB := Lib.hid hyb
  clear hx hy hz hxl hyl hzl hzg hxb hyb hval
  have E0 := Env.start w
  go_enter Try.func55, Try.ntmps55
  go_wp2_with (first
    | ((with_reducible refine wpE_box (o := ⟨some 2, _, _, _, _, _⟩) rfl 45 (.tmp 0) rfl (natsC x) (by with_unfolding_all rfl) E0 ?_); intro g1 w1 E1)
    | ((with_reducible refine wpE_box (o := ⟨some 3, _, _, _, _, _⟩) rfl 45 (.tmp 1) rfl (natsC y) (by with_unfolding_all rfl) E1 ?_); intro g2 w2 E2)
    | ((with_reducible refine wpE_alloc (o := ⟨some 4, _, _, _, _, _⟩) rfl 45 rfl (natsC zero5) Try.zero5e E2 ?_); intro g3 w3 E3)
    | ((with_reducible refine wpE_alloc (o := ⟨some 5, _, _, _, _, _⟩) rfl 43 rfl (natsC zero5) Try.zero5p E3 ?_); intro g4 w4 E4)
    | ((with_reducible refine wpE_store (o := ⟨none, _, _, _, _, _⟩) rfl 43 (.tmp 5) (.tmp 7) rfl 0 g4 43 (natsC zero5) (natsC twiceL) (by with_unfolding_all rfl) (by with_unfolding_all rfl) (by with_unfolding_all exact twiceV) (natsC_same zero5_length twiceL_length) (sizeN Try.sz5p _ twiceL_length) (natsC_one _) E4 ?_); intro w5 E5; simp only [List.set_cons_zero] at E5))
  have E6 := Lib.hid E5
  clear E0 E1 E2 E3 E4 E5
  go_loopw [8] (fun i wr => ∃ k : Nat, k ≤ 5 ∧ i = .int .i64 k ∧ Env w [(g4, 43, natsC twiceL), (g3, 45, natsC zero5), (g2, 45, natsC y), (g1, 45, natsC (stP z x k))] wr) (fun i _ => 5 - (intOf i).toNat)
  case atStart => exact ⟨0, by omega, rfl, by rw [stP_zero]; exact E6.out⟩
  case round =>
    clear E6
    obtain ⟨k, hk, rfl, hE⟩ := hrel
    have E := Lib.hid hE
    clear hE
    by_cases hlt : k < 5
    · have c1 := E.out.getN 3 rfl k (by rw [stP_length z x HZL.out HXL.out k hk]; exact hlt)
      rw [stP_get z x HZL.out HXL.out k hlt] at c1
      have c2 := E.out.getN 2 rfl k (by rw [HYL.out]; exact hlt)
      have c0 := E.out.getN 0 rfl k (by rw [twiceL_length]; exact hlt)
      have hb0 := twiceL_lt k
      have hb4 := twiceL_ge k hlt
      have f1 := E.out.fzN 3 rfl k
      have hk5 : (k : Int) < 5 := by omega
      have hb1 := HXB.out k
      have hb2 := HYB.out k
      have hstep := stP_step z x HZL.out HXL.out k hlt
      rw [HZG.out k hlt] at hstep
      generalize x.getD k 0 = xv at c1 hb1 hstep
      generalize y.getD k 0 = yv at c2 hb2 hstep
      generalize twiceL.getD k 0 = tv at c0 hb0 hb4 hstep
      obtain ⟨s, hs⟩ : ∃ s, s = xv + (tv - yv) := ⟨_, rfl⟩
      obtain ⟨d, hd⟩ : ∃ d, d = tv - yv := ⟨_, rfl⟩
      have hdif : IntKind.u64.wrap ((tv : Int) - (yv : Int)) = (d : Int) := by rw [IntKind.wrap_u64]; omega
      have hsum : IntKind.u64.wrap ((xv : Int) + (d : Int)) = (s : Int) := by rw [IntKind.wrap_u64]; omega
      rw [← hs] at hstep
      have HS := Lib.hid hstep
      clear hs hd hstep hb4
      go_wp2_with fail
      go_still_tail 15, (by kernel_rfl)
      change wpList _ _ _ _ _ wr.drew
      have c3 : wr.drew.cell? ⟨g1, k, none⟩ = some (.int .u64 (xv : Int)) := c1
      have f3 : wr.drew.frozen? ⟨g1, k, none⟩ = false := f1
      clear c0 c1 c2 f1 hsum hdif
      have E5 := E.out.drew.cellN 3 rfl k s
      simp only [List.set_cons_zero, List.set_cons_succ] at E5
      rw [HS.out] at E5
      have HE5 := Lib.hid E5
      clear E5 E
      go_wp2
      go_roundw
      case rel => exact ⟨k + 1, by omega, by go_num, HE5.out⟩
      case measure => simp [intOf]; omega
    · have hk5 : k = 5 := by omega
      have E5 := E.out
      rw [hk5, stP_all z x HZL.out HXL.out] at E5
      have E6 := Lib.hid E5
      clear E5 E hk5
      go_wp2_with (first
        | (with_reducible refine wpE_load (o := ⟨some 28, _, _, _, _, _⟩) rfl 43 (.tmp 27) rfl 3 g1 45 (natsC z) (.array 5 39) (by with_unfolding_all rfl) (by with_unfolding_all rfl) Try.underlying43 rfl (sizeN Try.sz5p _ HZL.out) E6.out ?_)
        | ((with_reducible refine (R.out _).mono ?_); rintro e w6 ⟨rfl, b6⟩; have E7 := E6.out.call b6)
        | ((with_reducible refine wpE_store (o := ⟨none, _, _, _, _, _⟩) rfl 45 (.tmp 4) (.tmp 29) rfl 1 g3 45 (natsC zero5) (natsC (elemL (subF a b))) (by with_unfolding_all rfl) (by with_unfolding_all rfl) (by with_unfolding_all rfl) (natsC_same zero5_length (elemL_length _)) (sizeN Try.sz5e _ (elemL_length _)) (natsC_one _) E7 ?_); intro w9 E9))
      exact bodyPost_ret (results_cell_row rfl _ _ g3 45 (natsC (elemL (subF a b))) (0, 0) _ rfl (E9.row 1 rfl) Try.underlying45 rfl (sizeN Try.sz5e _ (elemL_length _))) rfl (E9.ret _)
end Go.Proofs.Ytpgjcmccfpjmoaa
end
