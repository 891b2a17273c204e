/-
  Contracts of the document's Small, Add, Mul (layer 6). Conditions: the numbers are below p.
-/
import Derived.Test.YtejingggfbmbjaaFieldRefB
namespace Go.Proofs.Ytejingggfbmbjaa
open Go.RowKit
set_option linter.unusedVariables false
set_option maxRecDepth 20000

theorem zero17V : Value.agg #[.int .u64 0, .int .u64 0, .int .u64 0, .int .u64 0, .int .u64 0, .int .u64 0, .int .u64 0, .int .u64 0, .int .u64 0, .int .u64 0, .int .u64 0, .int .u64 0, .int .u64 0, .int .u64 0, .int .u64 0, .int .u64 0, .int .u64 0] = .agg (natsC zero17) := rfl
theorem Try.sz32n : (Try.prog.info? 67).map (·.size) = some 32 := by kernel_rfl
def zero32n : List Nat := List.replicate 32 0
theorem zero32n_length : zero32n.length = 32 := by simp [zero32n]
theorem Try.zero32n : (Try.prog.info? 67).map (·.zero) = some (some (.agg (natsC zero32n))) := by kernel_rfl
theorem pF_lt16 : pF < Bx ^ 16 := by decide +kernel
theorem dig_val16 (a : Nat) (h : a < pF) : valR (digR 16 a) = a := by rw [val_digR, Nat.mod_eq_of_lt (Nat.lt_trans h pF_lt16)]
theorem digD_lt (a k : Nat) : (digR 16 a).getD k 0 < 65536 := getD_lt (digR_lt 16 a) (by decide) k
theorem addR_val : ∀ (x y : List Nat), x.length = y.length → valR (addL x y) = valR x + valR y
  | [], [], _ => rfl
  | a :: x, b :: y, h => by
    have ih := addR_val x y (by simpa using h)
    simp only [addL, List.zipWith_cons_cons, valR] at *
    rw [ih, Nat.mul_add]
    omega
/-- Sixteen digits, and none beyond them. -/
theorem with0_val (z : List Nat) (h : z.length = 16) : valR ((z ++ [0]).take 16) + 38 * (z ++ [0]).getD 16 0 = valR z := by
  rw [List.take_left' h]
  have : (z ++ [0]).getD 16 0 = 0 := by
    rw [List.getD_eq_getElem?_getD, List.getElem?_append_right (by omega), h]
    rfl
  rw [this, Nat.mul_zero, Nat.add_zero]
theorem with0_get (z : List Nat) (h : z.length = 16) (k : Nat) (hk : k < 16) : (z ++ [0]).getD k 0 = z.getD k 0 := by
  simp only [List.getD_eq_getElem?_getD]
  rw [List.getElem?_append_left (by omega)]
theorem stP_with0 (z : List Nat) (h : z.length = 16) : stP (z ++ [0]) zero17 16 = z ++ [0] := by
  unfold stP
  rw [List.take_left' h]
  rfl
theorem with0_lt (z : List Nat) (B : Nat) (h : ∀ x ∈ z, x < B) (hB : 0 < B) : ∀ x ∈ z ++ [0], x < B := by
  intro x hx
  rcases List.mem_append.1 hx with hx | hx
  · exact h x hx
  · simp at hx; omega

set_option maxHeartbeats 2000000 in
theorem refAdd_any (a b : Nat) (ha : a < pF) (hb : b < pF) (w : World) :
    Calls Try.prog 23 #[.agg (natsC (digR 16 a)), .agg (natsC (digR 16 b))] w (RetV w (.agg (natsC (digR 16 ((a + b) % pF))))) := by
  obtain ⟨x, hx⟩ : ∃ x, x = digR 16 a := ⟨_, rfl⟩
  obtain ⟨y, hy⟩ : ∃ y, y = digR 16 b := ⟨_, rfl⟩
  obtain ⟨z, hz⟩ : ∃ z, z = addL x y := ⟨_, rfl⟩
  have hxl : x.length = 16 := by rw [hx, digR_length]
  have hyl : y.length = 16 := by rw [hy, digR_length]
  have hzl : z.length = 16 := by rw [hz, addL_length hxl hyl]
  have hzg : ∀ k, k < 16 → z.getD k 0 = x.getD k 0 + y.getD k 0 := fun k hk => by rw [hz, addL_get hxl hyl k hk]
  have hxb : ∀ k, x.getD k 0 < 65536 := fun k => by rw [hx]; exact digD_lt a k
  have hyb : ∀ k, y.getD k 0 < 65536 := fun k => by rw [hy]; exact digD_lt b k
  have hzb := with0_lt z 70368744177664 (getD_of_mem hzl fun k hk => by have := hxb k; have := hyb k; rw [hzg k hk]; omega) (by omega)
  have LE := Lib.hid (fun w => least_any (z ++ [0]) (by simp [hzl]) hzb w)
  rw [with0_val z hzl, hz, addR_val x y (by omega), hx, hy, dig_val16 a ha, dig_val16 b hb] at LE
  rw [← hx, ← hy, ← hz] at LE
  rw [← hx, ← hy]
  have HXL := Lib.hid hxl
  have HYL := Lib.hid hyl
  have HZL := Lib.hid hzl
  have HZG := Lib.hid hzg
  have HXB := Lib.hid hxb
  have HYB := Lib.hid hyb
  have HZ17 : Hid ((z ++ [0]).length = 17) := by show _ = _; simp [hzl]
  have HR : Hid ((digR 16 ((a + b) % pF)).length = 16) := digR_length 16 _
  generalize digR 16 ((a + b) % pF) = res at LE HR ⊢
  clear hx hy hz hxl hyl hzl hzg hxb hyb hzb
  have E0 := Env.start w
  go_enter Try.func23, Try.ntmps23
  go_wp2_with (first
    | ((with_reducible refine wpE_box (o := ⟨some 2, _, _, _, _, _⟩) rfl 33 (.tmp 0) rfl (natsC (x)) (by with_unfolding_all rfl) E0 ?_); intro g1 w1 E1)
    | ((with_reducible refine wpE_box (o := ⟨some 3, _, _, _, _, _⟩) rfl 33 (.tmp 1) rfl (natsC (y)) (by with_unfolding_all rfl) E1 ?_); intro g2 w2 E2)
    | ((with_reducible refine wpE_alloc (o := ⟨some 4, _, _, _, _, _⟩) rfl 33 rfl (natsC (zero16)) Try.zero16 E2 ?_); intro g3 w3 E3)
    | ((with_reducible refine wpE_alloc (o := ⟨some 5, _, _, _, _, _⟩) rfl 55 rfl (natsC (zero17)) Try.zero17 E3 ?_); intro g4 w4 E4)
    | ((with_reducible refine wpE_store (o := ⟨none, _, _, _, _, _⟩) rfl 55 (.tmp 5) (.tmp 7) rfl 0 g4 55 (natsC (zero17)) (natsC (zero17)) (by with_unfolding_all rfl) (by with_unfolding_all rfl) (by with_unfolding_all exact zero17V) (natsC_same zero17_length zero17_length) (sizeN Try.sz17 _ zero17_length) (natsC_one _) E4 ?_); intro w5 E5; simp only [List.set_cons_zero] at E5))
  have E6 := Lib.hid E5
  clear E0 E1 E2 E3 E4 E5
  go_loopw [6] (fun i wr => ∃ k : Nat, k ≤ 16 ∧ i = .int .i64 k ∧ Env w [(g4, 55, natsC (stP (z ++ [0]) zero17 k)), (g3, 33, natsC zero16), (g2, 33, natsC y), (g1, 33, natsC x)] wr) (fun i _ => 16 - (intOf i).toNat)
  case atStart => exact ⟨0, by omega, rfl, by rw [stP_zero]; exact E6.out⟩
  case round =>
    clear E6
    obtain ⟨k, hk, rfl, hE⟩ := hrel
    have E := Lib.hid hE
    clear hE
    by_cases hlt : k < 16
    · have c1 := E.out.getN 3 rfl k (by rw [HXL.out]; exact hlt)
      have c2 := E.out.getN 2 rfl k (by rw [HYL.out]; exact hlt)
      have c3 := E.out.getN 0 rfl k (by rw [stP_length _ _ HZ17.out zero17_length k (by omega)]; omega)
      have f3 := E.out.fzN 0 rfl k
      have hst := stP_step (z ++ [0]) zero17 HZ17.out zero17_length k (by omega)
      rw [with0_get z HZL.out k hlt, HZG.out k hlt] at hst
      have b1 := HXB.out k
      have b2 := HYB.out k
      generalize x.getD k 0 = xv at c1 b1 hst
      generalize y.getD k 0 = yv at c2 b2 hst
      generalize (stP (z ++ [0]) zero17 k).getD k 0 = old at c3
      obtain ⟨s, hs⟩ : ∃ s, s = xv + yv := ⟨_, rfl⟩
      have a1 : IntKind.u64.wrap ((xv : Int) + (yv : Int)) = (s : Int) := by rw [IntKind.wrap_u64]; omega
      rw [← hs] at hst
      have E4 := E.out.drew.cellN 0 rfl k s
      simp only [List.set_cons_zero] at E4
      rw [hst] at E4
      have HE := Lib.hid E4
      have hk5 : (k : Int) < 16 := by omega
      have hk6 : (k : Int) < 17 := by omega
      clear hs hst E4 E
      go_wp2_with fail
      go_still_tail 9, (by kernel_rfl)
      change wpList _ _ _ _ _ wr.drew
      have c4 : wr.drew.cell? ⟨g4, k, none⟩ = some (.int .u64 (old : Int)) := c3
      have f4 : wr.drew.frozen? ⟨g4, k, none⟩ = false := f3
      clear c1 c2 c3 f3 a1
      go_wp2
      go_roundw
      case rel => exact ⟨k + 1, by omega, by go_num, HE.out⟩
      case measure => simp [intOf]; omega
    · have hk16 : k = 16 := by omega
      have E4 := E.out
      rw [hk16, stP_with0 z HZL.out] at E4
      have HE := Lib.hid E4
      clear E4 E hk16
      go_wp2_with (first
        | (with_reducible refine wpE_load (o := ⟨some 21, _, _, _, _, _⟩) rfl 55 (.tmp 5) rfl 0 g4 55 (natsC (z ++ [0])) _ (by with_unfolding_all rfl) (by with_unfolding_all rfl) Try.underlying55 rfl (sizeN Try.sz17 _ HZ17.out) HE.out ?_)
        | ((with_reducible refine (LE.out _).mono ?_); rintro e w6 ⟨rfl, b6⟩; have E7 := HE.out.call b6)
        | ((with_reducible refine wpE_store (o := ⟨none, _, _, _, _, _⟩) rfl 33 (.tmp 4) (.tmp 22) rfl 1 g3 33 (natsC (zero16)) (natsC (res)) (by with_unfolding_all rfl) (by with_unfolding_all rfl) (by with_unfolding_all rfl) (natsC_same zero16_length HR.out) (sizeN Try.sz16 _ HR.out) (natsC_one _) E7 ?_); intro w9 E9; simp only [List.set_cons_zero, List.set_cons_succ] at E9))
      exact bodyPost_ret (results_cell_row rfl _ _ g3 33 (natsC (res)) (0, 0) _ rfl (E9.row 1 rfl) Try.underlying33 rfl (sizeN Try.sz16 _ HR.out)) rfl (E9.ret _)

theorem small16 (n : Nat) (hn : n < 18446744073709551616) : [n % 65536, n / 65536 % 65536, n / 4294967296 % 65536, n / 281474976710656, 0, 0, 0, 0, 0, 0, 0, 0, 0, 0, 0, 0] = digR 16 n := by
  simp only [digR, List.cons.injEq, and_true]
  unfold Bx
  omega
theorem small16V (a b c d : Nat) : Value.agg #[.int .u64 (a : Int), .int .u64 (b : Int), .int .u64 (c : Int), .int .u64 (d : Int), .int .u64 0, .int .u64 0, .int .u64 0, .int .u64 0, .int .u64 0, .int .u64 0, .int .u64 0, .int .u64 0, .int .u64 0, .int .u64 0, .int .u64 0, .int .u64 0] = .agg (natsC [a, b, c, d, 0, 0, 0, 0, 0, 0, 0, 0, 0, 0, 0, 0]) := rfl
theorem small16_length (a b c d : Nat) : [a, b, c, d, 0, 0, 0, 0, 0, 0, 0, 0, 0, 0, 0, 0].length = 16 := rfl
set_option maxHeartbeats 1000000 in
theorem refSmall_any (n : Nat) (hn : n < 18446744073709551616) (w : World) :
    Calls Try.prog 18 #[.int .u64 (n : Int)] w (RetV w (.agg (natsC (digR 16 n)))) := by
  have he := small16 n hn
  obtain ⟨a, ha⟩ : ∃ a, a = n % 65536 := ⟨_, rfl⟩
  obtain ⟨q, hq⟩ : ∃ a, a = n / 65536 := ⟨_, rfl⟩
  obtain ⟨b, hb⟩ : ∃ a, a = n / 65536 % 65536 := ⟨_, rfl⟩
  obtain ⟨r, hr⟩ : ∃ a, a = n / 4294967296 := ⟨_, rfl⟩
  obtain ⟨c, hc⟩ : ∃ a, a = n / 4294967296 % 65536 := ⟨_, rfl⟩
  obtain ⟨d, hd⟩ : ∃ a, a = n / 281474976710656 := ⟨_, rfl⟩
  have h1 : (n : Int) % 65536 = (a : Int) := by omega
  have h2 : (n : Int) / 65536 = (q : Int) := by omega
  have h3 : (q : Int) % 65536 = (b : Int) := by omega
  have h4 : (n : Int) / 4294967296 = (r : Int) := by omega
  have h5 : (r : Int) % 65536 = (c : Int) := by omega
  have h6 : (n : Int) / 281474976710656 = (d : Int) := by omega
  have w1 : IntKind.u64.wrap (q : Int) = (q : Int) := wrap64 q (by omega)
  have w2 : IntKind.u64.wrap (r : Int) = (r : Int) := wrap64 r (by omega)
  have w3 : IntKind.u64.wrap (d : Int) = (d : Int) := wrap64 d (by omega)
  rw [← ha, ← hb, ← hc, ← hd] at he
  rw [← he]
  clear ha hq hb hr hc hd he hn
  have E0 := Env.start w
  go_enter Try.func18, Try.ntmps18
  go_wp2_with (first
    | ((with_reducible refine wpE_alloc (o := ⟨some 2, _, _, _, _, _⟩) rfl 33 rfl (natsC (zero16)) Try.zero16 E0 ?_); intro g1 w1 E1)
    | ((with_reducible refine wpE_store (o := ⟨none, _, _, _, _, _⟩) rfl 33 (.tmp 2) (.tmp 13) rfl 0 g1 33 (natsC (zero16)) (natsC ([a, b, c, d, 0, 0, 0, 0, 0, 0, 0, 0, 0, 0, 0, 0])) (by with_unfolding_all rfl) (by with_unfolding_all rfl) (by with_unfolding_all exact small16V a b c d) (natsC_same zero16_length (small16_length a b c d)) (sizeN Try.sz16 _ (small16_length a b c d)) (natsC_one _) E1 ?_); intro w9 E9; simp only [List.set_cons_zero] at E9))
  exact bodyPost_ret (results_cell_row rfl _ _ g1 33 (natsC ([a, b, c, d, 0, 0, 0, 0, 0, 0, 0, 0, 0, 0, 0, 0])) (0, 0) _ rfl (E9.row 0 rfl) Try.underlying33 rfl (sizeN Try.sz16 _ (small16_length a b c d))) rfl (E9.ret _)
end Go.Proofs.Ytejingggfbmbjaa
