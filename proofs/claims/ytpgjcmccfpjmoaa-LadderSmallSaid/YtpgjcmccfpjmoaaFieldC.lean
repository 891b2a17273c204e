/-
  Contracts of the field's wide sums: the product of two words, plus, narrowed. Conditions: as each theorem names them.
-/
import Derived.Test.YtpgjcmccfpjmoaaFieldB
import Derived.Lib.Mul64
import Derived.Laws.Externs
namespace Go.Proofs.Ytpgjcmccfpjmoaa
open Go.RowKit
set_option linter.unusedVariables false
set_option maxRecDepth 20000

theorem and32n (a : Nat) (ha : a < 18446744073709551616) : bits .and .u64 (a : Int) 4294967295 = ((a % 4294967296 : Nat) : Int) := by
  have h := u64_and_nat a 4294967295 ha (by omega)
  rw [show ((4294967295 : Nat) : Int) = 4294967295 from rfl] at h
  rw [h]
  congr 1
  exact Nat.and_two_pow_sub_one_eq_mod a 32
theorem div32n (a : Nat) : (a : Int) / 4294967296 = ((a / 4294967296 : Nat) : Int) := by omega
theorem muln (a b : Nat) : (a : Int) * (b : Int) = ((a * b : Nat) : Int) := (Int.natCast_mul a b).symm
theorem addn (a b : Nat) : (a : Int) + (b : Int) = ((a + b : Nat) : Int) := (Int.natCast_add a b).symm
theorem wrapm (a : Nat) : IntKind.u64.wrap (a : Int) = ((a % 18446744073709551616 : Nat) : Int) := by rw [IntKind.wrap_u64]; omega

set_option maxHeartbeats 1000000 in
theorem Mul64_any (x y : Nat) (hx : x < 18446744073709551616) (hy : y < 18446744073709551616) (w : World) :
    Calls Try.prog 69 #[.int .u64 (x : Int), .int .u64 (y : Int)] w fun e w' => e = .returned (.tuple #[.int .u64 ((x * y / 18446744073709551616 : Nat) : Int), .int .u64 ((x * y % 18446744073709551616 : Nat) : Int)]) ∧ w = w' := by
  obtain ⟨bd, bt, bw, hhi⟩ := Lib.mul64_hi x y hx hy
  have ba := Lib.half_mul_le (a := x / 4294967296) (b := y / 4294967296) (by omega) (by omega)
  have bb := Lib.half_mul_le (a := x / 4294967296) (b := y % 4294967296) (by omega) (by omega)
  have bc := Lib.half_mul_le (a := x % 4294967296) (b := y / 4294967296) (by omega) (by omega)
  have ba' : x / 4294967296 * (y / 4294967296) < 18446744073709551616 := by omega
  have bb' : x / 4294967296 * (y % 4294967296) < 18446744073709551616 := by omega
  have bc' : x % 4294967296 * (y / 4294967296) < 18446744073709551616 := by omega
  have bh1 : x / 4294967296 * (y / 4294967296) + (x / 4294967296 * (y % 4294967296) + x % 4294967296 * (y % 4294967296) / 4294967296) / 4294967296 < 18446744073709551616 := by omega
  have bh : x / 4294967296 * (y / 4294967296) + (x / 4294967296 * (y % 4294967296) + x % 4294967296 * (y % 4294967296) / 4294967296) / 4294967296 + ((x / 4294967296 * (y % 4294967296) + x % 4294967296 * (y % 4294967296) / 4294967296) % 4294967296 + x % 4294967296 * (y / 4294967296)) / 4294967296 < 18446744073709551616 := by omega
  go_enter Try.func69, Try.ntmps69
  go_wp2
  simp only [and32n x hx, and32n y hy, div32n, muln, addn, wrap64 _ bd, wrap64 _ bb', wrap64 _ bt, and32n _ bt, wrap64 _ bc', wrap64 _ bw, wrap64 _ ba', wrap64 _ bh1, wrap64 _ bh, wrapm (x * y)]
  rw [hhi]
  go_ret2
  exact ⟨rfl, rfl⟩

theorem Add64_run (x y c s d : Nat) (hc : c ≤ 1) (hs : s = (x + y + c) % 18446744073709551616) (hd : d = (x + y + c) / 18446744073709551616) (w : World) :
    (callFunc 70 #[.int .u64 (x : Int), .int .u64 (y : Int), .int .u64 (c : Int)]).run Try.prog w = .ok (.value (.tuple #[.int .u64 (s : Int), .int .u64 (d : Int)])) w := by
  subst hs hd
  rw [run_callFunc_extern Try.func70 (by kernel_rfl) (by kernel_rfl) (by kernel_rfl) (e := add64Entry) (by kernel_rfl), run_add64 x y c (by omega) (by omega) (by omega) (by omega)]
  simp only [Result.andThen]
  congr 5 <;> omega

/-- A sum of products, as two words. -/
def wideL (n : Nat) : List Nat := [n / 18446744073709551616, n % 18446744073709551616]
theorem wideL_length (n : Nat) : (wideL n).length = 2 := rfl
theorem Try.sz2 : (Try.prog.info? 96).map (·.size) = some 2 := by kernel_rfl
theorem Try.zero2 : (Try.prog.info? 96).map (·.zero) = some (some (.agg (natsC [0, 0]))) := by kernel_rfl
theorem two_length (a b : Nat) : [a, b].length = 2 := rfl
theorem twoV (a b : Nat) : Value.agg #[.int .u64 (a : Int), .int .u64 (b : Int)] = .agg (natsC [a, b]) := rfl

set_option maxHeartbeats 1000000 in
theorem plus_any (n a b : Nat) (ha : a < 18446744073709551616) (hb : b < 18446744073709551616) (hn : n + a * b < 340282366920938463463374607431768211456) (w : World) :
    Calls Try.prog 57 #[.agg (natsC (wideL n)), .int .u64 (a : Int), .int .u64 (b : Int)] w (RetV w (.agg (natsC (wideL (n + a * b))))) := by
  have M1 := Lib.hid (fun w => Mul64_any a b ha hb w)
  obtain ⟨m, hm⟩ : ∃ m, m = a * b := ⟨_, rfl⟩
  rw [← hm] at M1 hn ⊢
  clear hm
  obtain ⟨h, hh⟩ : ∃ h, h = n / 18446744073709551616 := ⟨_, rfl⟩
  obtain ⟨l, hl⟩ : ∃ l, l = n % 18446744073709551616 := ⟨_, rfl⟩
  obtain ⟨mh, hmh⟩ : ∃ h, h = m / 18446744073709551616 := ⟨_, rfl⟩
  obtain ⟨ml, hml⟩ : ∃ l, l = m % 18446744073709551616 := ⟨_, rfl⟩
  obtain ⟨s, hs⟩ : ∃ s, s = (l + ml + 0) % 18446744073709551616 := ⟨_, rfl⟩
  obtain ⟨c, hc⟩ : ∃ c, c = (l + ml + 0) / 18446744073709551616 := ⟨_, rfl⟩
  obtain ⟨t, ht⟩ : ∃ t, t = (h + mh + c) % 18446744073709551616 := ⟨_, rfl⟩
  obtain ⟨d, hd⟩ : ∃ d, d = (h + mh + c) / 18446744073709551616 := ⟨_, rfl⟩
  have e0 : wideL n = [h, l] := by unfold wideL; rw [← hh, ← hl]
  have e1 : wideL (n + m) = [t, s] := by
    unfold wideL
    simp only [List.cons.injEq, and_true]
    omega
  rw [← hmh, ← hml] at M1
  rw [e0, e1]
  have A1 : ∀ W, (callFunc 70 #[.int .u64 (l : Int), .int .u64 (ml : Int), .int .u64 0]).run Try.prog W = .ok (.value (.tuple #[.int .u64 (s : Int), .int .u64 (c : Int)])) W := fun W => Add64_run l ml 0 s c (by omega) hs hc W
  have A2 : ∀ W, (callFunc 70 #[.int .u64 (h : Int), .int .u64 (mh : Int), .int .u64 (c : Int)]).run Try.prog W = .ok (.value (.tuple #[.int .u64 (t : Int), .int .u64 (d : Int)])) W := fun W => Add64_run h mh c t d (by omega) ht hd W
  clear hh hl hmh hml hs hc ht hd e0 e1 hn
  have E0 := Env.start w
  go_enter Try.func57, Try.ntmps57
  go_wp2_with (first
    | ((with_reducible refine wpE_box (o := ⟨some 3, _, _, _, _, _⟩) rfl 96 (.tmp 0) rfl (natsC [h, l]) (by with_unfolding_all rfl) E0 ?_); intro g1 w1 E1)
    | ((with_reducible refine wpE_alloc (o := ⟨some 6, _, _, _, _, _⟩) rfl 96 rfl (natsC [0, 0]) Try.zero2 E1 ?_); intro g2 w2 E2; have c1 := E2.getN 1 rfl 0 (by simp); have c2 := E2.getN 1 rfl 1 (by simp); simp only [List.getD_cons_zero, List.getD_cons_succ] at c1 c2; clear E0 E1)
    | ((with_reducible refine (M1.out _).mono ?_); rintro e w3 ⟨rfl, rfl⟩)
    | ((with_reducible refine wpE_store (o := ⟨none, _, _, _, _, _⟩) rfl 96 (.tmp 6) (.tmp 33) rfl 0 g2 96 (natsC [0, 0]) (natsC [t, s]) (by with_unfolding_all rfl) (by with_unfolding_all rfl) (by with_unfolding_all exact twoV t s) (natsC_same (two_length 0 0) (two_length t s)) (sizeN Try.sz2 _ (two_length t s)) (natsC_one _) E2 ?_); intro w9 E9))
  exact bodyPost_ret (results_cell_row rfl _ _ g2 96 (natsC [t, s]) (0, 0) _ rfl (E9.row 0 rfl) Try.underlying96 rfl (sizeN Try.sz2 _ (two_length t s))) rfl (E9.ret _)

/-- Sums of products in a row. -/
def widesL (ws : List Nat) : List Nat := ws.flatMap wideL
theorem widesL_length (ws : List Nat) : (widesL ws).length = 2 * ws.length := by
  induction ws with
  | nil => rfl
  | cons a ws ih => simp only [widesL, List.flatMap_cons, List.length_append, wideL_length, List.length_cons] at *; omega
theorem widesL_part (ws : List Nat) (k : Nat) (h : k < ws.length) : ((widesL ws).drop (2 * k)).take 2 = wideL (ws.getD k 0) := by
  induction ws generalizing k with
  | nil => simp at h
  | cons a ws ih =>
    cases k with
    | zero => simp [widesL, wideL]
    | succ k =>
      have := ih k (by simpa using h)
      simpa [widesL, wideL, Nat.mul_add] using this
theorem widesL_set (ws : List Nat) (k n : Nat) (h : k < ws.length) : (widesL ws).take (2 * k) ++ wideL n ++ (widesL ws).drop (2 * k + 2) = widesL (ws.set k n) := by
  induction ws generalizing k with
  | nil => simp at h
  | cons a ws ih =>
    cases k with
    | zero => simp [widesL, wideL]
    | succ k =>
      have := ih k (by simpa using h)
      simpa [widesL, wideL, Nat.mul_add] using this
theorem Try.sz10 : (Try.prog.info? 97).map (·.size) = some 10 := by kernel_rfl
def zero10 : List Nat := [0, 0, 0, 0, 0, 0, 0, 0, 0, 0]
theorem zero10_length : zero10.length = 10 := rfl
theorem Try.zero10 : (Try.prog.info? 97).map (·.zero) = some (some (.agg (natsC zero10))) := by kernel_rfl
theorem index_wide (w : World) (ws : List Nat) (hl : ws.length = 5) (k : Nat) (hk : k < 5) : (Instr.index 97 (.agg (natsC (widesL ws))) (.int .i64 (k : Int))).run Try.prog w = .ok (.agg (natsC (wideL (ws.getD k 0)))) w := by
  rw [run_index_struct w 97 96 5 2 _ _ .i64 k Try.underlying97 Try.underlying96 Try.sz2 hk]
  congr 2
  apply Array.toList_inj.1
  rw [Array.toList_extract]
  have := widesL_part ws k (by omega)
  rw [← this]
  simp [natsC, cellsN, List.extract, Nat.mul_comm]

/-- What is made of the first k sums, and zeros behind them. -/
def stN (ws : List Nat) (k : Nat) : List Nat := digL k (valL (ws.take k)) ++ List.replicate (5 - k) 0
theorem stN_length (ws : List Nat) (k : Nat) (h : k ≤ 5) : (stN ws k).length = 5 := by simp [stN, digL_length]; omega
theorem stN_step (ws : List Nat) (hl : ws.length = 5) (k : Nat) (h : k < 5) : (stN ws k).set k ((ws.getD k 0 + cyC ws k) % Mx) = stN ws (k + 1) := by
  unfold stN
  rw [List.set_append_right _ _ (by rw [digL_length]; exact Nat.le_refl _), digL_length, Nat.sub_self, digL_snoc, take_val ws k (by omega), digL_mod, List.append_assoc]
  congr 1
  rw [show 5 - k = (5 - (k + 1)) + 1 by omega, List.replicate_succ, List.set_cons_zero]
  have e : (valL (ws.take k) + Mx ^ k * ws.getD k 0) / Mx ^ k % Mx = (ws.getD k 0 + cyC ws k) % Mx := by
    rw [Nat.add_mul_div_left _ _ (Nat.pow_pos Mx_pos), Nat.add_comm]
    rfl
  rw [e]
  rfl
end Go.Proofs.Ytpgjcmccfpjmoaa
