/-
  Contracts of the field's Add, Sub. Conditions: as each theorem names them.
-/
import Derived.Test.YtpgjcmccfpjmoaaFieldD
import Derived.StillTailTactics
namespace Go.Proofs.Ytpgjcmccfpjmoaa
open Go.RowKit
set_option linter.unusedVariables false
set_option maxRecDepth 20000

/-- The first k of z, and behind them what x has. -/
def stP (z x : List Nat) (k : Nat) : List Nat := z.take k ++ x.drop k
theorem stP_zero (z x : List Nat) : stP z x 0 = x := by simp [stP]
theorem stP_all (z x : List Nat) {n : Nat} (hz : z.length = n) (hx : x.length = n) : stP z x n = z := by
  unfold stP
  rw [List.take_of_length_le (by omega), List.drop_eq_nil_of_le (by omega), List.append_nil]
theorem stP_length (z x : List Nat) {n : Nat} (hz : z.length = n) (hx : x.length = n) (k : Nat) (hk : k ≤ n) : (stP z x k).length = n := by simp [stP]; omega
theorem stP_get (z x : List Nat) {n : Nat} (hz : z.length = n) (hx : x.length = n) (k : Nat) (hk : k < n) : (stP z x k).getD k 0 = x.getD k 0 := by
  simp only [stP, List.getD_eq_getElem?_getD]
  rw [List.getElem?_append_right (by simp; omega), List.getElem?_drop]
  congr 2
  simp
  omega
theorem stP_step (z x : List Nat) {n : Nat} (hz : z.length = n) (hx : x.length = n) (k : Nat) (hk : k < n) : (stP z x k).set k (z.getD k 0) = stP z x (k + 1) := by
  unfold stP
  rw [List.set_append_right _ _ (by simp; omega), List.length_take_of_le (by omega), Nat.sub_self, List.drop_eq_getElem_cons (by omega), List.set_cons_zero]
  have e := List.take_succ_eq_append_getElem (l := z) (i := k) (by omega)
  have hg : z.getD k 0 = z[k]'(by omega) := by simp [show k < z.length by omega]
  rw [hg, e, List.append_assoc]
  rfl

def addL (x y : List Nat) : List Nat := List.zipWith (· + ·) x y
theorem addL_length {x y : List Nat} {n : Nat} (hx : x.length = n) (hy : y.length = n) : (addL x y).length = n := by simp [addL, hx, hy]
theorem addL_get {x y : List Nat} {n : Nat} (hx : x.length = n) (hy : y.length = n) (k : Nat) (hk : k < n) : (addL x y).getD k 0 = x.getD k 0 + y.getD k 0 := by
  simp [addL, List.getD_eq_getElem?_getD, List.getElem?_zipWith, show k < x.length by omega, show k < y.length by omega]
theorem addL_val : ∀ (x y : List Nat), x.length = y.length → valL (addL x y) = valL x + valL y
  | [], [], _ => rfl
  | a :: x, b :: y, h => by
    have ih := addL_val x y (by simpa using h)
    simp only [addL, List.zipWith_cons_cons, valL] at *
    rw [ih, Nat.mul_add]
    omega
theorem getD_of_mem {z : List Nat} {B n : Nat} (hz : z.length = n) (h : ∀ k, k < n → z.getD k 0 < B) : ∀ x ∈ z, x < B := by
  intro x hx
  obtain ⟨k, hk, rfl⟩ := List.mem_iff_getElem.1 hx
  have := h k (by omega)
  simpa [List.getD_eq_getElem?_getD, hk] using this

set_option maxHeartbeats 2000000 in
theorem Add_any (a b : Nat) (ha : a < pF) (hb : b < pF) (w : World) :
    Calls Try.prog 54 #[.agg (natsC (elemL a)), .agg (natsC (elemL b))] w (RetV w (.agg (natsC (elemL ((a + b) % pF))))) := by
  obtain ⟨x, hx⟩ : ∃ x, x = elemL a := ⟨_, rfl⟩
  obtain ⟨y, hy⟩ : ∃ y, y = elemL b := ⟨_, rfl⟩
  obtain ⟨z, hz⟩ : ∃ z, z = addL x y := ⟨_, rfl⟩
  have hxl : x.length = 5 := by rw [hx, elemL_length]
  have hyl : y.length = 5 := by rw [hy, elemL_length]
  have hzl : z.length = 5 := by rw [hz, addL_length hxl hyl]
  have hzg : ∀ k, k < 5 → z.getD k 0 = x.getD k 0 + y.getD k 0 := fun k hk => by rw [hz, addL_get hxl hyl k hk]
  have hxb : ∀ k, x.getD k 0 < 2251799813685248 := fun k => getD_lt (by rw [hx]; exact elemL_lt a) Mx_pos k
  have hyb : ∀ k, y.getD k 0 < 2251799813685248 := fun k => getD_lt (by rw [hy]; exact elemL_lt b) Mx_pos k
  have hval : valL z % pF = (a + b) % pF := by rw [hz, addL_val x y (by omega), hx, hy, elemL_val a ha, elemL_val b hb]
  have R := Lib.hid (fun w => reduced_any w z hzl (getD_of_mem hzl fun k hk => by have := hxb k; have := hyb k; rw [hzg k hk]; omega))
  rw [hval] at R
  rw [← hx, ← hy]
  have HXL := Lib.hid hxl
  have HYL := Lib.hid hyl
  have HZL := Lib.hid hzl
  have HZG := Lib.hid hzg
  have HXB := Lib.hid hxb
  have HYB := Lib.hid hyb
  clear hx hy hz hxl hyl hzl hzg hxb hyb hval
  have E0 := Env.start w
  go_enter Try.func54, Try.ntmps54
  go_wp2_with (first
    | ((with_reducible refine wpE_box (o := ⟨some 2, _, _, _, _, _⟩) rfl 45 (.tmp 0) rfl (natsC x) (by with_unfolding_all rfl) E0 ?_); intro g1 w1 E1)
    | ((with_reducible refine wpE_box (o := ⟨some 3, _, _, _, _, _⟩) rfl 45 (.tmp 1) rfl (natsC y) (by with_unfolding_all rfl) E1 ?_); intro g2 w2 E2)
    | ((with_reducible refine wpE_alloc (o := ⟨some 4, _, _, _, _, _⟩) rfl 45 rfl (natsC zero5) Try.zero5e E2 ?_); intro g3 w3 E3))
  have E4 := Lib.hid E3
  clear E0 E1 E2 E3
  go_loopw [6] (fun i wr => ∃ k : Nat, k ≤ 5 ∧ i = .int .i64 k ∧ Env w [(g3, 45, natsC zero5), (g2, 45, natsC y), (g1, 45, natsC (stP z x k))] wr) (fun i _ => 5 - (intOf i).toNat)
  case atStart => exact ⟨0, by omega, rfl, by rw [stP_zero]; exact E4.out⟩
  case round =>
    clear E4
    obtain ⟨k, hk, rfl, hE⟩ := hrel
    have E := Lib.hid hE
    clear hE
    by_cases hlt : k < 5
    · have c1 := E.out.getN 2 rfl k (by rw [stP_length z x HZL.out HXL.out k hk]; exact hlt)
      rw [stP_get z x HZL.out HXL.out k hlt] at c1
      have c2 := E.out.getN 1 rfl k (by rw [HYL.out]; exact hlt)
      have f1 := E.out.fzN 2 rfl k
      have hk5 : (k : Int) < 5 := by omega
      have hb1 := HXB.out k
      have hb2 := HYB.out k
      have hstep := stP_step z x HZL.out HXL.out k hlt
      rw [HZG.out k hlt] at hstep
      generalize x.getD k 0 = xv at c1 hb1 hstep
      generalize y.getD k 0 = yv at c2 hb2 hstep
      obtain ⟨s, hs⟩ : ∃ s, s = xv + yv := ⟨_, rfl⟩
      have hsum : IntKind.u64.wrap ((xv : Int) + (yv : Int)) = (s : Int) := by rw [IntKind.wrap_u64]; omega
      rw [← hs] at hstep
      have HS := Lib.hid hstep
      clear hs hstep
      go_wp2_with fail
      go_still_tail 11, (by kernel_rfl)
      change wpList _ _ _ _ _ wr.drew
      have c3 : wr.drew.cell? ⟨g1, k, none⟩ = some (.int .u64 (xv : Int)) := c1
      have f3 : wr.drew.frozen? ⟨g1, k, none⟩ = false := f1
      clear c1 c2 f1 hsum
      have E5 := E.out.drew.cellN 2 rfl k s
      simp only [List.set_cons_zero, List.set_cons_succ] at E5
      rw [HS.out] at E5
      have HE5 := Lib.hid E5
      clear E5 E
      go_wp2
      go_roundw
      case rel => exact ⟨k + 1, by omega, by go_num, HE5.out⟩
      case measure => simp [intOf]; omega
    · have hk5 : k = 5 := by omega
      have E5 := E.out
      rw [hk5, stP_all z x HZL.out HXL.out] at E5
      have E6 := Lib.hid E5
      clear E5 E hk5
      go_wp2_with (first
        | (with_reducible refine wpE_load (o := ⟨some 22, _, _, _, _, _⟩) rfl 43 (.tmp 21) rfl 2 g1 45 (natsC z) (.array 5 39) (by with_unfolding_all rfl) (by with_unfolding_all rfl) Try.underlying43 rfl (sizeN Try.sz5p _ HZL.out) E6.out ?_)
        | ((with_reducible refine (R.out _).mono ?_); rintro e w6 ⟨rfl, b6⟩; have E7 := E6.out.call b6)
        | ((with_reducible refine wpE_store (o := ⟨none, _, _, _, _, _⟩) rfl 45 (.tmp 4) (.tmp 23) rfl 0 g3 45 (natsC zero5) (natsC (elemL ((a + b) % pF))) (by with_unfolding_all rfl) (by with_unfolding_all rfl) (by with_unfolding_all rfl) (natsC_same zero5_length (elemL_length _)) (sizeN Try.sz5e _ (elemL_length _)) (natsC_one _) E7 ?_); intro w9 E9))
      exact bodyPost_ret (results_cell_row rfl _ _ g3 45 (natsC (elemL ((a + b) % pF))) (0, 0) _ rfl (E9.row 0 rfl) Try.underlying45 rfl (sizeN Try.sz5e _ (elemL_length _))) rfl (E9.ret _)
/-- Twice p, a part at a time; a difference, with that added. -/
def twiceL : List Nat := [4503599627370458, 4503599627370494, 4503599627370494, 4503599627370494, 4503599627370494]
theorem twiceL_length : twiceL.length = 5 := rfl
theorem twiceV : Value.agg #[.int .u64 4503599627370458, .int .u64 4503599627370494, .int .u64 4503599627370494, .int .u64 4503599627370494, .int .u64 4503599627370494] = .agg (natsC twiceL) := rfl
theorem twiceL_lt (k : Nat) : twiceL.getD k 0 < 4503599627370495 := getD_lt (B := 4503599627370495) (by decide) (by decide) k
theorem twiceL_ge (k : Nat) (h : k < 5) : 2251799813685248 ≤ twiceL.getD k 0 := by
  have : ∀ k, k < 5 → 2251799813685248 ≤ twiceL.getD k 0 := by decide
  exact this k h
def subL (x y : List Nat) : List Nat := addL x (List.zipWith (· - ·) twiceL y)
theorem subL_length {x y : List Nat} (hx : x.length = 5) (hy : y.length = 5) : (subL x y).length = 5 := addL_length hx (by simp [hy, twiceL_length])
theorem subL_get {x y : List Nat} (hx : x.length = 5) (hy : y.length = 5) (k : Nat) (hk : k < 5) : (subL x y).getD k 0 = x.getD k 0 + (twiceL.getD k 0 - y.getD k 0) := by
  unfold subL
  rw [addL_get hx (by simp [hy, twiceL_length]) k hk]
  congr 1
  simp [List.getD_eq_getElem?_getD, List.getElem?_zipWith, show k < twiceL.length by rw [twiceL_length]; exact hk, show k < y.length by omega]
theorem subL_val {x y : List Nat} (hx : x.length = 5) (hy : y.length = 5) (hb : ∀ k, y.getD k 0 < 2251799813685248) : valL (subL x y) + valL y = valL x + 2 * pF := by
  unfold subL
  rw [addL_val x _ (by simp [hy, hx, twiceL_length])]
  match y, hy with
  | [a, b, c, d, e], _ =>
    have h0 := hb 0
    have h1 := hb 1
    have h2 := hb 2
    have h3 := hb 3
    have h4 := hb 4
    simp only [List.getD_cons_zero, List.getD_cons_succ] at h0 h1 h2 h3 h4
    simp only [twiceL, List.zipWith_cons_cons, List.zipWith_nil_left, valL, Mx, pF]
    omega
/-- A difference modulo p. -/
def subF (a b : Nat) : Nat := (a + (pF - b)) % pF
theorem subF_lt (a b : Nat) : subF a b < pF := Nat.mod_lt _ (by decide)
theorem subF_of {a b z : Nat} (ha : a < pF) (hb : b < pF) (h : z + b = a + 2 * pF) : z % pF = subF a b := by
  unfold subF
  rw [show z = a + (pF - b) + pF by omega, Nat.add_mod_right]

set_option maxHeartbeats 2000000 in
theorem Sub_any (a b : Nat) (ha : a < pF) (hb : b < pF) (w : World) :
    Calls Try.prog 55 #[.agg (natsC (elemL a)), .agg (natsC (elemL b))] w (RetV w (.agg (natsC (elemL (subF a b))))) := by
  obtain ⟨x, hx⟩ : ∃ x, x = elemL a := ⟨_, rfl⟩
  obtain ⟨y, hy⟩ : ∃ y, y = elemL b := ⟨_, rfl⟩
  obtain ⟨z, hz⟩ : ∃ z, z = subL x y := ⟨_, rfl⟩
  have hxl : x.length = 5 := by rw [hx, elemL_length]
  have hyl : y.length = 5 := by rw [hy, elemL_length]
  have hzl : z.length = 5 := by rw [hz, subL_length hxl hyl]
  have hzg : ∀ k, k < 5 → z.getD k 0 = x.getD k 0 + (twiceL.getD k 0 - y.getD k 0) := fun k hk => by rw [hz, subL_get hxl hyl k hk]
  have hxb : ∀ k, x.getD k 0 < 2251799813685248 := fun k => getD_lt (by rw [hx]; exact elemL_lt a) Mx_pos k
  have hyb : ∀ k, y.getD k 0 < 2251799813685248 := fun k => getD_lt (by rw [hy]; exact elemL_lt b) Mx_pos k
  have hval : valL z % pF = subF a b := by
    have := subL_val hxl hyl hyb
    rw [← hz, hx, hy, elemL_val a ha, elemL_val b hb] at this
    exact subF_of ha hb this
  have R := Lib.hid (fun w => reduced_any w z hzl (getD_of_mem hzl fun k hk => by have := hxb k; have := twiceL_lt k; rw [hzg k hk]; omega))
  rw [hval] at R
  rw [← hx, ← hy]
  have HXL := Lib.hid hxl
  have HYL := Lib.hid hyl
  have HZL := Lib.hid hzl
  have HZG := Lib.hid hzg
  have HXB := Lib.hid hxb
  have HYB := Lib.hid hyb
  clear hx hy hz hxl hyl hzl hzg hxb hyb hval
  have E0 := Env.start w
  go_enter Try.func55, Try.ntmps55
  go_wp2_with (first
    | ((with_reducible refine wpE_box (o := ⟨some 2, _, _, _, _, _⟩) rfl 45 (.tmp 0) rfl (natsC x) (by with_unfolding_all rfl) E0 ?_); intro g1 w1 E1)
    | ((with_reducible refine wpE_box (o := ⟨some 3, _, _, _, _, _⟩) rfl 45 (.tmp 1) rfl (natsC y) (by with_unfolding_all rfl) E1 ?_); intro g2 w2 E2)
    | ((with_reducible refine wpE_alloc (o := ⟨some 4, _, _, _, _, _⟩) rfl 45 rfl (natsC zero5) Try.zero5e E2 ?_); intro g3 w3 E3)
    | ((with_reducible refine wpE_alloc (o := ⟨some 5, _, _, _, _, _⟩) rfl 43 rfl (natsC zero5) Try.zero5p E3 ?_); intro g4 w4 E4)
    | ((with_reducible refine wpE_store (o := ⟨none, _, _, _, _, _⟩) rfl 43 (.tmp 5) (.tmp 7) rfl 0 g4 43 (natsC zero5) (natsC twiceL) (by with_unfolding_all rfl) (by with_unfolding_all rfl) (by with_unfolding_all exact twiceV) (natsC_same zero5_length twiceL_length) (sizeN Try.sz5p _ twiceL_length) (natsC_one _) E4 ?_); intro w5 E5; simp only [List.set_cons_zero] at E5))
  have E6 := Lib.hid E5
  clear E0 E1 E2 E3 E4 E5
  go_loopw [8] (fun i wr => ∃ k : Nat, k ≤ 5 ∧ i = .int .i64 k ∧ Env w [(g4, 43, natsC twiceL), (g3, 45, natsC zero5), (g2, 45, natsC y), (g1, 45, natsC (stP z x k))] wr) (fun i _ => 5 - (intOf i).toNat)
  case atStart => exact ⟨0, by omega, rfl, by rw [stP_zero]; exact E6.out⟩
  case round =>
    clear E6
    obtain ⟨k, hk, rfl, hE⟩ := hrel
    have E := Lib.hid hE
    clear hE
    by_cases hlt : k < 5
    · have c1 := E.out.getN 3 rfl k (by rw [stP_length z x HZL.out HXL.out k hk]; exact hlt)
      rw [stP_get z x HZL.out HXL.out k hlt] at c1
      have c2 := E.out.getN 2 rfl k (by rw [HYL.out]; exact hlt)
      have c0 := E.out.getN 0 rfl k (by rw [twiceL_length]; exact hlt)
      have hb0 := twiceL_lt k
      have hb4 := twiceL_ge k hlt
      have f1 := E.out.fzN 3 rfl k
      have hk5 : (k : Int) < 5 := by omega
      have hb1 := HXB.out k
      have hb2 := HYB.out k
      have hstep := stP_step z x HZL.out HXL.out k hlt
      rw [HZG.out k hlt] at hstep
      generalize x.getD k 0 = xv at c1 hb1 hstep
      generalize y.getD k 0 = yv at c2 hb2 hstep
      generalize twiceL.getD k 0 = tv at c0 hb0 hb4 hstep
      obtain ⟨s, hs⟩ : ∃ s, s = xv + (tv - yv) := ⟨_, rfl⟩
      obtain ⟨d, hd⟩ : ∃ d, d = tv - yv := ⟨_, rfl⟩
      have hdif : IntKind.u64.wrap ((tv : Int) - (yv : Int)) = (d : Int) := by rw [IntKind.wrap_u64]; omega
      have hsum : IntKind.u64.wrap ((xv : Int) + (d : Int)) = (s : Int) := by rw [IntKind.wrap_u64]; omega
      rw [← hs] at hstep
      have HS := Lib.hid hstep
      clear hs hd hstep hb4
      go_wp2_with fail
      go_still_tail 15, (by kernel_rfl)
      change wpList _ _ _ _ _ wr.drew
      have c3 : wr.drew.cell? ⟨g1, k, none⟩ = some (.int .u64 (xv : Int)) := c1
      have f3 : wr.drew.frozen? ⟨g1, k, none⟩ = false := f1
      clear c0 c1 c2 f1 hsum hdif
      have E5 := E.out.drew.cellN 3 rfl k s
      simp only [List.set_cons_zero, List.set_cons_succ] at E5
      rw [HS.out] at E5
      have HE5 := Lib.hid E5
      clear E5 E
      go_wp2
      go_roundw
      case rel => exact ⟨k + 1, by omega, by go_num, HE5.out⟩
      case measure => simp [intOf]; omega
    · have hk5 : k = 5 := by omega
      have E5 := E.out
      rw [hk5, stP_all z x HZL.out HXL.out] at E5
      have E6 := Lib.hid E5
      clear E5 E hk5
      go_wp2_with (first
        | (with_reducible refine wpE_load (o := ⟨some 28, _, _, _, _, _⟩) rfl 43 (.tmp 27) rfl 3 g1 45 (natsC z) (.array 5 39) (by with_unfolding_all rfl) (by with_unfolding_all rfl) Try.underlying43 rfl (sizeN Try.sz5p _ HZL.out) E6.out ?_)
        | ((with_reducible refine (R.out _).mono ?_); rintro e w6 ⟨rfl, b6⟩; have E7 := E6.out.call b6)
        | ((with_reducible refine wpE_store (o := ⟨none, _, _, _, _, _⟩) rfl 45 (.tmp 4) (.tmp 29) rfl 1 g3 45 (natsC zero5) (natsC (elemL (subF a b))) (by with_unfolding_all rfl) (by with_unfolding_all rfl) (by with_unfolding_all rfl) (natsC_same zero5_length (elemL_length _)) (sizeN Try.sz5e _ (elemL_length _)) (natsC_one _) E7 ?_); intro w9 E9))
      exact bodyPost_ret (results_cell_row rfl _ _ g3 45 (natsC (elemL (subF a b))) (0, 0) _ rfl (E9.row 1 rfl) Try.underlying45 rfl (sizeN Try.sz5e _ (elemL_length _))) rfl (E9.ret _)
end Go.Proofs.Ytpgjcmccfpjmoaa
