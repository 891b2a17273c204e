/-
  Texts that belong together, merged: CodU, CodV. Conditions: as each theorem names them.
-/
import Derived.Test.YtjhhpakaemnemaaQCorAI
import Derived.Test.YtjhhpakaemnemaaQCorAH
import Derived.Test.YtjhhpakaemnemaaQCorAG
section
namespace Go.Proofs.Ytjhhpakaemnemaa
open Go.RowKit
set_option linter.unusedVariables false
set_option maxRecDepth 20000

set_option maxHeartbeats 1000000 in
theorem refKind_any (w : World) (z : Int) : Calls Try.prog 42 #[.int .i64 z] w fun e w' => e = .returned (.bool (!badK z)) ∧ w = w' := by
  by_cases h1 : z = 1
  · subst h1
    go_enter Try.func42, Try.ntmps42
    go_wp2
    go_ret
    exact ⟨rfl, rfl⟩
  · have d1 : decide (z = 1) = false := by simp [h1]
    by_cases h2 : z = 2
    · subst h2
      go_enter Try.func42, Try.ntmps42
      go_wp2
      go_ret
      exact ⟨rfl, rfl⟩
    · have d2 : decide (z = 2) = false := by simp [h2]
      by_cases h4 : z = 4
      · subst h4
        go_enter Try.func42, Try.ntmps42
        go_wp2
        go_ret
        exact ⟨rfl, rfl⟩
      · have d4 : decide (z = 4) = false := by simp [h4]
        by_cases h8 : z = 8
        · subst h8
          go_enter Try.func42, Try.ntmps42
          go_wp2
          go_ret
          exact ⟨rfl, rfl⟩
        · have d8 : decide (z = 8) = false := by simp [h8]
          by_cases h9 : z = 9
          · subst h9
            go_enter Try.func42, Try.ntmps42
            go_wp2
            go_ret
            exact ⟨rfl, rfl⟩
          · have d9 : decide (z = 9) = false := by simp [h9]
            by_cases h32 : z = 32
            · subst h32
              go_enter Try.func42, Try.ntmps42
              go_wp2
              go_ret
              exact ⟨rfl, rfl⟩
            · have d32 : decide (z = 32) = false := by simp [h32]
              have hbad : badK z = true := by unfold badK posK; simp [h1, h2, h4, h8, h9, h32]
              rw [hbad]
              go_enter Try.func42, Try.ntmps42
              go_wp2
              go_ret
              exact ⟨by simp [h1, h2, h4, h8, h9, h32], rfl⟩

theorem Its.of_own {w : World} {base : Nat} {e : TypeId} {v : Value} {its : List It} {bv lv : Nat → Value} (h : w.ownsRow base e 4 v its.length (itsC its bv lv its.length)) (hI : ∀ (j : Nat) x, its[j]? = some x → Bs w (bv j) x.b ∧ Kl w (lv j) x.l ∧ x.n < 18446744073709551616) : Its w v its := by
  refine ⟨bv, lv, ?_, hI⟩
  rcases h.2 with ⟨h0, h1⟩ | ⟨g, cap, cur, h0, _, hg, h1, h2, _⟩
  · rw [h0, h1]
    exact ⟨none, 0, rfl, Nat.le_refl _, by simp [maxLen], fun h => absurd h (by omega)⟩
  · refine ⟨_, cap, h0, h1, h2, fun _ => ⟨g, 0, rfl, fun k hk i u hu => ?_⟩⟩
    have hcs := World.ownsRow.cells h (g := g) (by rw [h0]; rfl) (k * 4 + i) u (itsC_at its bv lv _ k hk i u hu)
    have hadd : (⟨g, 0, none⟩ : Addr).add (k * 4 + i) = ⟨g, k * 4 + i, none⟩ := by unfold Addr.add; split <;> simp_all
    rw [hadd] at hcs
    rw [Nat.zero_add]
    exact hcs
/-- The cells of one item. -/
theorem Its.cells {w : World} {v : Value} {its : List It} {bv lv : Nat → Value} {A : Option Addr} {c : Nat} (h3 : 0 < its.length → ∃ b off, A = some ⟨b, off, none⟩ ∧ ∀ j, j < its.length → w.rangeAt b (off + j * 4) (itC (its.getD j default) (bv j) (lv j))) (j : Nat) (x : It) (hx : its[j]? = some x) :
    ∃ b off, A = some ⟨b, off, none⟩ ∧ ∀ W, Below w.heap.size w W → ∀ (i : Nat) u, (itC x (bv j) (lv j))[i]? = some u → W.cell? ⟨b, off + j * 4 + i, none⟩ = some u := by
  have hlt := (List.getElem?_eq_some_iff.1 hx).1
  obtain ⟨b, off, hA, hc⟩ := h3 (by omega)
  have hg : its.getD j default = x := by rw [List.getD_eq_getElem?_getD, hx]; rfl
  have h1 := hc j hlt
  rw [hg] at h1
  exact ⟨b, off, hA, fun W hW i u hu => (hW.cell (p := ⟨b, off + j * 4 + i, none⟩) (World.block_lt_of_cell? w _ (h1 i u hu))).trans (h1 i u hu)⟩

def ShortRet (its : List It) (e : Ending) : Prop := ∃ q : Bool, e = .returned (.bool q) ∧ (q = true → its.length ≤ 20)
set_option maxHeartbeats 1000000 in
theorem short_any (w : World) (v : Value) (its : List It) (h : Its w v its) :
    Calls Try.prog 10 #[v] w fun e w' => ShortRet its e ∧ w = w' := by
  obtain ⟨bv, lv, ⟨A, c, rfl, q1, q2, q3⟩, hI⟩ := h
  have HI := Lib.hid hI
  unfold maxLen at q2
  clear hI
  by_cases hs : (20 : Int) < (its.length : Int)
  · clear q3
    go_enter Try.func10, Try.ntmps10
    go_wp2
    go_ret
    exact ⟨⟨false, rfl, fun h => by cases h⟩, rfl⟩
  · have hn20 : its.length ≤ 20 := by omega
    go_enter Try.func10, Try.ntmps10
    go_wp2
    go_loopw [3] (fun i wr => ∃ j : Nat, j ≤ its.length ∧ i = .int .i64 (j : Int) ∧ wr = w) (fun i _ => its.length - (intOf i).toNat)
    case atStart => exact ⟨0, by omega, rfl, rfl⟩
    case round =>
      obtain ⟨j, hj, rfl, rfl⟩ := hrel
      by_cases hlt : j < its.length
      · have hlt2 : (j : Int) < (its.length : Int) := by omega
        have hw1 : IntKind.i64.wrap ((j : Int) + 1) = (j : Int) + 1 := IntWalk.i64_in _ (by omega)
        have hq0 : ¬ ((j : Int) < 0) := by omega
        obtain ⟨x, hx⟩ : ∃ x, its[j]? = some x := ⟨_, List.getElem?_eq_getElem hlt⟩
        obtain ⟨hb0, hk0, _⟩ := HI.out j x hx
        obtain ⟨b0, off, rfl, hc⟩ := Its.cells (v := .slice A its.length c) (c := c) q3 j x hx
        have c2 := hc wr (Below.refl _ _) 2 _ rfl
        have c3 := hc wr (Below.refl _ _) 3 _ rfl
        obtain ⟨BA, bc, hbv, _, _, _⟩ := hb0
        obtain ⟨LA, lc, hlv, _, _, _, _⟩ := hk0
        rw [hbv] at c2
        rw [hlv] at c3
        clear hc q3 hbv hlv hx
        by_cases h5 : (5000 : Int) < (x.b.length : Int)
        · go_wp2
          go_ret
          exact ⟨⟨false, rfl, fun h => by cases h⟩, rfl⟩
        · by_cases h6 : (120 : Int) < (x.l.length : Int)
          · go_wp2
            go_ret
            exact ⟨⟨false, rfl, fun h => by cases h⟩, rfl⟩
          · go_wp2
            refine ⟨⟨j + 1, by omega, by congr 1, trivial⟩, ?_⟩
            show its.length - ((j : Int) + 1).toNat < its.length - (j : Int).toNat
            omega
      · go_wp2
        go_ret
        exact ⟨⟨true, rfl, fun _ => hn20⟩, rfl⟩

theorem Try.infoItemR : (Try.prog.info? 61).map (fun i => (i.zero, i.size, i.bytes)) = some (some (.agg #[.int .i64 0, .int .u64 0, .slice none 0 0, .slice none 0 0]), 4, 64) := by kernel_rfl
set_option maxHeartbeats 2000000 in
theorem doc_any (w : World) (v : Value) (its : List It) (h : Its w v its) (hl : its.length ≤ 1000) :
    Calls Try.prog 13 #[v] w fun e w' => ∃ v', e = .returned v' ∧ Its w' v' its ∧ Below w.heap.size w w' := by
  obtain ⟨bv, lv, ⟨A, c, rfl, q1, q2, q3⟩, hI⟩ := h
  have HI := Lib.hid hI
  unfold maxLen at q2
  clear hI
  go_enter Try.func13, Try.ntmps13
  go_wp2
  go_loopw [3, 4] (fun v i wr => ∃ j : Nat, j ≤ its.length ∧ i = .int .i64 (j : Int) ∧ wr.ownsRow w.heap.size 61 4 v j (itsC its bv lv j) ∧ Below w.heap.size w wr) (fun _ i _ => its.length - (intOf i).toNat)
  case atStart => exact ⟨0, by omega, rfl, World.ownsRow_nil _ _ _ _, Below.refl _ _⟩
  case round =>
    obtain ⟨j, hj, rfl, hO, hB⟩ := hrel
    have HO := Lib.hid hO
    have HB := Lib.hid hB
    obtain ⟨VA, vn, vc, rfl⟩ : ∃ VA vn vc, u3 = .slice VA vn vc := by
      rcases hO.2 with ⟨rfl, _⟩ | ⟨g, cap, cur, rfl, _⟩ <;> exact ⟨_, _, _, rfl⟩
    clear hO hB
    by_cases hlt : j < its.length
    · have hlt2 : (j : Int) < (its.length : Int) := by omega
      have hw1 : IntKind.i64.wrap ((j : Int) + 1) = (j : Int) + 1 := IntWalk.i64_in _ (by omega)
      have hq0 : ¬ ((j : Int) < 0) := by omega
      obtain ⟨x, hx⟩ : ∃ x, its[j]? = some x := ⟨_, List.getElem?_eq_getElem hlt⟩
      obtain ⟨hb0, hk0, _⟩ := HI.out j x hx
      have hgx : its.getD j default = x := by rw [List.getD_eq_getElem?_getD, hx]; rfl
      obtain ⟨b0, off, rfl, hc⟩ := Its.cells (v := .slice A its.length c) (c := c) q3 j x hx
      have HC := Lib.hid hc
      have H1C := Lib.hid (itC_one w x (bv j) (lv j) hb0 hk0)
      obtain ⟨BV, hBV⟩ : ∃ BV, BV = bv j := ⟨_, rfl⟩
      obtain ⟨LV, hLV⟩ : ∃ LV, LV = lv j := ⟨_, rfl⟩
      have HFIN : Hid (itsC its bv lv j ++ itC x BV LV = itsC its bv lv (j + 1)) := by show _ = _; rw [itsC, hgx, hBV, hLV]
      rw [← hBV] at HC H1C
      rw [← hLV] at HC H1C
      have HBB : Hid (Bs w BV x.b) := hBV ▸ hb0
      have HLL : Hid (Kl w LV x.l) := hLV ▸ hk0
      have HIC : Hid (itC x BV LV = [.int .i64 x.k, .int .u64 (x.n : Int), BV, LV]) := rfl
      clear hc q3 hx hgx hb0 hk0 hBV hLV
      obtain ⟨BA, bc, rfl, _, _, _⟩ := HBB.out
      obtain ⟨LA, lc, rfl, _, _, _, _⟩ := HLL.out
      go_wp2
      refine plain_region (S := fun W => Below w.heap.size w W) (fin := fun _ => false) (by kernel_rfl) ?_
      have hS : Below w.heap.size w wr.drew := HB.out.drew
      change walkS _ _ _ _ _ _ 25 _ _ _
      refine walkS_take (i := 0) (oi := ⟨some 11, _, _, _, _, _⟩) (v := .slice VA vn vc) rfl (by kernel_rfl) (by kernel_rfl) (fun _ _ _ h => h) _ _ _ _ (by kernel_rfl) (by kernel_rfl) (Or.inl ⟨by rfl, fun w' hS' => (by clear hS hS'; go_simp)⟩) hS ?_
      try simp only [Act.put, List.setIfInBounds_toArray, List.set_cons_zero, List.set_cons_succ]
      refine walkS_take (i := 1) (oi := ⟨some 12, _, _, _, _, _⟩) (v := .slice (some ⟨b0, off, none⟩) its.length c) rfl (by kernel_rfl) (by kernel_rfl) (fun _ _ _ h => h) _ _ _ _ (by kernel_rfl) (by kernel_rfl) (Or.inl ⟨by rfl, fun w' hS' => (by clear hS hS'; go_simp)⟩) hS ?_
      try simp only [Act.put, List.setIfInBounds_toArray, List.set_cons_zero, List.set_cons_succ]
      refine walkS_take (i := 2) (oi := ⟨some 13, _, _, _, _, _⟩) (v := .int .i64 (j : Int)) rfl (by kernel_rfl) (by kernel_rfl) (fun _ _ _ h => h) _ _ _ _ (by kernel_rfl) (by kernel_rfl) (Or.inl ⟨by rfl, fun w' hS' => (by clear hS hS'; go_simp)⟩) hS ?_
      try simp only [Act.put, List.setIfInBounds_toArray, List.set_cons_zero, List.set_cons_succ]
      refine walkS_take (i := 3) (oi := ⟨some 14, _, _, _, _, _⟩) (v := .pointer (some ⟨b0, off + j * 4, none⟩)) rfl (by kernel_rfl) (by kernel_rfl) (fun _ _ _ h => h) _ _ _ _ (by kernel_rfl) (by kernel_rfl) (Or.inl ⟨by rfl, fun w' hS' => (by clear hS hS'; go_simp)⟩) hS ?_
      try simp only [Act.put, List.setIfInBounds_toArray, List.set_cons_zero, List.set_cons_succ]
      refine walkS_take (i := 4) (oi := ⟨some 15, _, _, _, _, _⟩) (v := .pointer (some ⟨b0, off + j * 4, none⟩)) rfl (by kernel_rfl) (by kernel_rfl) (fun _ _ _ h => h) _ _ _ _ (by kernel_rfl) (by kernel_rfl) (Or.inl ⟨by rfl, fun w' hS' => (by clear hS hS'; go_simp)⟩) hS ?_
      try simp only [Act.put, List.setIfInBounds_toArray, List.set_cons_zero, List.set_cons_succ]
      refine walkS_take (i := 5) (oi := ⟨some 16, _, _, _, _, _⟩) (v := .int .i64 x.k) rfl (by kernel_rfl) (by kernel_rfl) (fun _ _ _ h => h) _ _ _ _ (by kernel_rfl) (by kernel_rfl) (Or.inl ⟨by rfl, fun w' hS' => (by have c0 := HC.out w' hS' 0 _ rfl; rw [Nat.add_zero] at c0; clear hS hS'; go_simp)⟩) hS ?_
      try simp only [Act.put, List.setIfInBounds_toArray, List.set_cons_zero, List.set_cons_succ]
      refine walkS_take (i := 6) (oi := ⟨some 17, _, _, _, _, _⟩) (v := .slice (some ⟨b0, off, none⟩) its.length c) rfl (by kernel_rfl) (by kernel_rfl) (fun _ _ _ h => h) _ _ _ _ (by kernel_rfl) (by kernel_rfl) (Or.inl ⟨by rfl, fun w' hS' => (by clear hS hS'; go_simp)⟩) hS ?_
      try simp only [Act.put, List.setIfInBounds_toArray, List.set_cons_zero, List.set_cons_succ]
      refine walkS_take (i := 7) (oi := ⟨some 18, _, _, _, _, _⟩) (v := .int .i64 (j : Int)) rfl (by kernel_rfl) (by kernel_rfl) (fun _ _ _ h => h) _ _ _ _ (by kernel_rfl) (by kernel_rfl) (Or.inl ⟨by rfl, fun w' hS' => (by clear hS hS'; go_simp)⟩) hS ?_
      try simp only [Act.put, List.setIfInBounds_toArray, List.set_cons_zero, List.set_cons_succ]
      refine walkS_take (i := 8) (oi := ⟨some 19, _, _, _, _, _⟩) (v := .pointer (some ⟨b0, off + j * 4, none⟩)) rfl (by kernel_rfl) (by kernel_rfl) (fun _ _ _ h => h) _ _ _ _ (by kernel_rfl) (by kernel_rfl) (Or.inl ⟨by rfl, fun w' hS' => (by clear hS hS'; go_simp)⟩) hS ?_
      try simp only [Act.put, List.setIfInBounds_toArray, List.set_cons_zero, List.set_cons_succ]
      refine walkS_take (i := 9) (oi := ⟨some 20, _, _, _, _, _⟩) (v := .pointer (some ⟨b0, off + j * 4 + 1, none⟩)) rfl (by kernel_rfl) (by kernel_rfl) (fun _ _ _ h => h) _ _ _ _ (by kernel_rfl) (by kernel_rfl) (Or.inl ⟨by rfl, fun w' hS' => (by clear hS hS'; go_simp)⟩) hS ?_
      try simp only [Act.put, List.setIfInBounds_toArray, List.set_cons_zero, List.set_cons_succ]
      refine walkS_take (i := 10) (oi := ⟨some 21, _, _, _, _, _⟩) (v := .int .u64 (x.n : Int)) rfl (by kernel_rfl) (by kernel_rfl) (fun _ _ _ h => h) _ _ _ _ (by kernel_rfl) (by kernel_rfl) (Or.inl ⟨by rfl, fun w' hS' => (by have c0 := HC.out w' hS' 1 _ rfl; clear hS hS'; go_simp)⟩) hS ?_
      try simp only [Act.put, List.setIfInBounds_toArray, List.set_cons_zero, List.set_cons_succ]
      refine walkS_take (i := 11) (oi := ⟨some 22, _, _, _, _, _⟩) (v := .slice (some ⟨b0, off, none⟩) its.length c) rfl (by kernel_rfl) (by kernel_rfl) (fun _ _ _ h => h) _ _ _ _ (by kernel_rfl) (by kernel_rfl) (Or.inl ⟨by rfl, fun w' hS' => (by clear hS hS'; go_simp)⟩) hS ?_
      try simp only [Act.put, List.setIfInBounds_toArray, List.set_cons_zero, List.set_cons_succ]
      refine walkS_take (i := 12) (oi := ⟨some 23, _, _, _, _, _⟩) (v := .int .i64 (j : Int)) rfl (by kernel_rfl) (by kernel_rfl) (fun _ _ _ h => h) _ _ _ _ (by kernel_rfl) (by kernel_rfl) (Or.inl ⟨by rfl, fun w' hS' => (by clear hS hS'; go_simp)⟩) hS ?_
      try simp only [Act.put, List.setIfInBounds_toArray, List.set_cons_zero, List.set_cons_succ]
      refine walkS_take (i := 13) (oi := ⟨some 24, _, _, _, _, _⟩) (v := .pointer (some ⟨b0, off + j * 4, none⟩)) rfl (by kernel_rfl) (by kernel_rfl) (fun _ _ _ h => h) _ _ _ _ (by kernel_rfl) (by kernel_rfl) (Or.inl ⟨by rfl, fun w' hS' => (by clear hS hS'; go_simp)⟩) hS ?_
      try simp only [Act.put, List.setIfInBounds_toArray, List.set_cons_zero, List.set_cons_succ]
      refine walkS_take (i := 14) (oi := ⟨some 25, _, _, _, _, _⟩) (v := .pointer (some ⟨b0, off + j * 4 + 2, none⟩)) rfl (by kernel_rfl) (by kernel_rfl) (fun _ _ _ h => h) _ _ _ _ (by kernel_rfl) (by kernel_rfl) (Or.inl ⟨by rfl, fun w' hS' => (by clear hS hS'; go_simp)⟩) hS ?_
      try simp only [Act.put, List.setIfInBounds_toArray, List.set_cons_zero, List.set_cons_succ]
      refine walkS_take (i := 15) (oi := ⟨some 26, _, _, _, _, _⟩) (v := (.slice BA x.b.length bc)) rfl (by kernel_rfl) (by kernel_rfl) (fun _ _ _ h => h) _ _ _ _ (by kernel_rfl) (by kernel_rfl) (Or.inl ⟨by rfl, fun w' hS' => (by have c0 := HC.out w' hS' 2 _ rfl; clear hS hS'; go_simp)⟩) hS ?_
      try simp only [Act.put, List.setIfInBounds_toArray, List.set_cons_zero, List.set_cons_succ]
      refine walkS_take (i := 16) (oi := ⟨some 27, _, _, _, _, _⟩) (v := .slice (some ⟨b0, off, none⟩) its.length c) rfl (by kernel_rfl) (by kernel_rfl) (fun _ _ _ h => h) _ _ _ _ (by kernel_rfl) (by kernel_rfl) (Or.inl ⟨by rfl, fun w' hS' => (by clear hS hS'; go_simp)⟩) hS ?_
      try simp only [Act.put, List.setIfInBounds_toArray, List.set_cons_zero, List.set_cons_succ]
      refine walkS_take (i := 17) (oi := ⟨some 28, _, _, _, _, _⟩) (v := .int .i64 (j : Int)) rfl (by kernel_rfl) (by kernel_rfl) (fun _ _ _ h => h) _ _ _ _ (by kernel_rfl) (by kernel_rfl) (Or.inl ⟨by rfl, fun w' hS' => (by clear hS hS'; go_simp)⟩) hS ?_
      try simp only [Act.put, List.setIfInBounds_toArray, List.set_cons_zero, List.set_cons_succ]
      refine walkS_take (i := 18) (oi := ⟨some 29, _, _, _, _, _⟩) (v := .pointer (some ⟨b0, off + j * 4, none⟩)) rfl (by kernel_rfl) (by kernel_rfl) (fun _ _ _ h => h) _ _ _ _ (by kernel_rfl) (by kernel_rfl) (Or.inl ⟨by rfl, fun w' hS' => (by clear hS hS'; go_simp)⟩) hS ?_
      try simp only [Act.put, List.setIfInBounds_toArray, List.set_cons_zero, List.set_cons_succ]
      refine walkS_take (i := 19) (oi := ⟨some 30, _, _, _, _, _⟩) (v := .pointer (some ⟨b0, off + j * 4 + 3, none⟩)) rfl (by kernel_rfl) (by kernel_rfl) (fun _ _ _ h => h) _ _ _ _ (by kernel_rfl) (by kernel_rfl) (Or.inl ⟨by rfl, fun w' hS' => (by clear hS hS'; go_simp)⟩) hS ?_
      try simp only [Act.put, List.setIfInBounds_toArray, List.set_cons_zero, List.set_cons_succ]
      refine walkS_take (i := 20) (oi := ⟨some 31, _, _, _, _, _⟩) (v := (.slice LA x.l.length lc)) rfl (by kernel_rfl) (by kernel_rfl) (fun _ _ _ h => h) _ _ _ _ (by kernel_rfl) (by kernel_rfl) (Or.inl ⟨by rfl, fun w' hS' => (by have c0 := HC.out w' hS' 3 _ rfl; clear hS hS'; go_simp)⟩) hS ?_
      try simp only [Act.put, List.setIfInBounds_toArray, List.set_cons_zero, List.set_cons_succ]
      refine walkS_take (i := 21) (oi := ⟨some 32, _, _, _, _, _⟩) (v := .agg #[.int .i64 x.k, .int .u64 (x.n : Int), (.slice BA x.b.length bc), (.slice LA x.l.length lc)]) rfl (by kernel_rfl) (by kernel_rfl) (fun _ _ _ h => h) _ _ _ _ (by kernel_rfl) (by kernel_rfl) (Or.inl ⟨by rfl, fun w' hS' => (by clear hS hS'; go_simp)⟩) hS ?_
      try simp only [Act.put, List.setIfInBounds_toArray, List.set_cons_zero, List.set_cons_succ]
      clear hS
      refine walkS_only (i := 22) (o := ⟨some 33, _, _, _, _, _⟩) (by kernel_rfl) rfl rfl fun KK hKK => ?_
      go_simp
      obtain ⟨w11, hw11⟩ : ∃ w11, w11 = (wr.alloc (.cells (itC x (.slice BA x.b.length bc) (.slice LA x.l.length lc)).toArray 61)).drew := ⟨_, rfl⟩
      have B11 : Hid (Below wr.heap.size wr w11) := by show Below _ _ _; rw [hw11]; exact ((Below.refl _ wr).alloc (Nat.le_refl _) _).drew
      have R11 : Hid (RowAt w11 wr.heap.size 61 (itC x (.slice BA x.b.length bc) (.slice LA x.l.length lc)).toArray) := by show RowAt _ _ _ _; rw [hw11]; exact (RowAt.new wr _ _).drew
      have hw12 : (wr.alloc (.cells #[.int .i64 x.k, .int .u64 (x.n : Int), (.slice BA x.b.length bc), (.slice LA x.l.length lc)] 61)).drew = w11 := by rw [hw11, HIC.out]
      rw [hw12]
      refine hKK _ _ (.inr (below_size HB.out B11.out)) ?_
      clear hKK KK hw11 hw12
      try simp only [Act.put, List.setIfInBounds_toArray, List.set_cons_zero, List.set_cons_succ]
      refine walkS_only (i := 23) (o := ⟨some 34, _, _, _, _, _⟩) (by kernel_rfl) rfl rfl fun KK hKK => ?_
      have O11 := Lib.hid (owned_far (row := none) HO.out (grown_of_below B11.out) (fun r e => by cases e))
      obtain ⟨i0, hi0, hz0, hz1, hz2⟩ := info_parts Try.infoItemR
      have h410 : w.heap.size ≤ w11.heap.size := Nat.le_trans HB.out.size B11.out.size
      refine wp_append_own w11 (.tmp 11) (.tmp 33) 30 rfl w.heap.size 61 i0 (.agg #[.int .i64 0, .int .u64 0, .slice none 0 0, .slice none 0 0]) 4 64 Try.underlying30 hi0 hz0 hz1 hz2 rfl (by decide) (.slice VA vn vc) j _ rfl O11.out ⟨wr.heap.size, 0, none⟩ 1 1 (itC x (.slice BA x.b.length bc) (.slice LA x.l.length lc)) rfl rfl (fun q y hq => ?_) H1C.out (by unfold maxLen; omega) (by omega) h410 fun v2 w12 ho2 hg2 _ => ?_
      · have hadd : (⟨wr.heap.size, 0, none⟩ : Addr).add q = ⟨wr.heap.size, q, none⟩ := by unfold Addr.add; split <;> simp_all
        rw [hadd, R11.out.cell q]
        simpa using hq
      clear hi0 hz0 hz1 hz2
      have B12 : Hid (Below w.heap.size w w12) := (below_size HB.out B11.out).grown hg2 h410 (fun k e => (World.ownsRow.lt O11.out k e).1)
      rw [HFIN.out] at ho2
      have HO2 := Lib.hid ho2
      obtain ⟨VA2, vn2, vc2, rfl⟩ : ∃ VA vn vc, v2 = .slice VA vn vc := by
        rcases ho2.2 with ⟨rfl, _⟩ | ⟨g, cap, cur, rfl, _⟩ <;> exact ⟨_, _, _, rfl⟩
      refine hKK _ _ (.inr B12.out) ?_
      clear hKK KK hg2 ho2
      try simp only [Act.put, List.setIfInBounds_toArray, List.set_cons_zero, List.set_cons_succ]
      refine walkS_only (i := 24) (o := ⟨some 3, _, _, _, _, _⟩) (by kernel_rfl) rfl rfl fun KK hKK => ?_
      go_simp
      refine hKK _ _ (.inr B12.out) (walkS_done (by kernel_rfl) ?_ _)
      clear hKK KK
      go_wp2_with fail
      go_roundw
      case rel => exact ⟨j + 1, by omega, by go_num, HO2.out, B12.out⟩
      case measure => simp [intOf]; omega
    · have hj2 : j = its.length := by omega
      subst hj2
      go_wp2
      go_ret
      exact ⟨_, rfl, Its.of_own HO.out (fun k x hx => ⟨(HI.out k x hx).1.below HB.out, (HI.out k x hx).2.1.below HB.out, (HI.out k x hx).2.2⟩), HB.out⟩

theorem inv_item (s : St) (x : It) (h : s.Inv) : (s.item x).Inv := by
  unfold St.item
  split
  · unfold St.wByt; split
    · exact inv_fail _ _ h
    · exact inv_put _ _ (inv_put _ _ h)
  · split
    · unfold St.wKey; split
      · exact inv_fail _ _ h
      · exact inv_put _ _ (inv_put _ _ h)
    · unfold St.wNum; split
      · exact inv_put _ _ h
      · exact inv_fail _ _ h
theorem encS_inv (its : List It) : (encS its).Inv := by
  have key : ∀ (ps : List It) (s : St), s.Inv → (ps.foldl St.item s).Inv := by
    intro ps
    induction ps with
    | nil => intro s h; exact h
    | cons x r ih => intro s h; exact ih _ (inv_item s x h)
  exact key its _ (fun h => absurd rfl h)

set_option maxHeartbeats 4000000 in
theorem refEncode_any (w : World) (v : Value) (its : List It) (h : Its w v its) (hl : its.length ≤ 1000) :
    Calls Try.prog 12 #[v] w fun e w' => Below w.heap.size w w' ∧
      ((its.any (fun x => badK x.k) = true ∧ e = .returned (.tuple #[.slice none 0 0, .int .i64 51])) ∨ (its.any (fun x => badK x.k) = false ∧ ∃ u, e = .returned (.tuple #[u, .int .i64 (encS its).e]) ∧ Bs w' u (encS its).l)) := by
  obtain ⟨bv, lv, ⟨A, c, rfl, q1, q2, q3⟩, hI⟩ := h
  have HI := Lib.hid hI
  have HQ3 := Lib.hid q3
  have H32 : Hid (∀ x ∈ its, ∀ l ∈ x.l, l.length = 32) := fun x hx l hl => by
    obtain ⟨j, hj⟩ := List.mem_iff_getElem?.1 hx
    obtain ⟨_, _, _, _, _, h4, _⟩ := (hI j x hj).2.1
    exact h4 l hl
  have HK := Lib.hid (fun w z => refKind_any w z)
  unfold maxLen at q2
  clear hI q3
  go_enter Try.func12, Try.ntmps12
  go_wp2_with fail
  go_loopw [4] (fun i wr => ∃ j : Nat, j ≤ its.length ∧ i = .int .i64 (j : Int) ∧ wr = w ∧ ∀ (k : Nat) x, k < j → its[k]? = some x → badK x.k = false) (fun i _ => its.length - (intOf i).toNat)
  case atStart => exact ⟨0, by omega, rfl, rfl, fun k x hk => by omega⟩
  case round =>
    obtain ⟨j, hj, rfl, hqq, hno⟩ := hrel
    have hqq' := hqq.symm
    subst hqq'
    clear hqq
    have HNO := Lib.hid hno
    clear hno
    by_cases hlt : j < its.length
    · have hlt2 : (j : Int) < (its.length : Int) := by omega
      have hw1 : IntKind.i64.wrap ((j : Int) + 1) = (j : Int) + 1 := IntWalk.i64_in _ (by omega)
      have hq0 : ¬ ((j : Int) < 0) := by omega
      obtain ⟨x, hx⟩ : ∃ x, its[j]? = some x := ⟨_, List.getElem?_eq_getElem hlt⟩
      obtain ⟨b0, off, rfl, hc⟩ := Its.cells (v := .slice A its.length c) (c := c) HQ3.out j x hx
      have c0 := hc w (Below.refl _ _) 0 _ rfl
      rw [Nat.add_zero] at c0
      have HX := Lib.hid hx
      clear hc hx
      go_wp2_with fail
      refine (HK.out w x.k).mono ?_
      intro e w1 hh
      obtain ⟨he, hw⟩ := hh
      subst he hw
      cases hbad : badK x.k with
      | true =>
        go_wp2_with fail
        go_ret2
        exact ⟨Below.refl _ _, .inl ⟨List.any_eq_true.2 ⟨x, List.mem_of_getElem? HX.out, hbad⟩, rfl⟩⟩
      | false =>
        go_wp2_with fail
        go_roundw
        case rel => exact ⟨j + 1, by omega, by go_num, trivial, fun k y hk hy => by
          by_cases hkj : k = j
          · rw [hkj, HX.out] at hy
            injection hy with hy
            rw [← hy]; exact hbad
          · exact HNO.out k y (by omega) hy⟩
        case measure => simp [intOf]; omega
    · have hj2 : j = its.length := by omega
      subst hj2
      have HNB : Hid (∀ (k : Nat) x, its[k]? = some x → badK x.k = false) := fun k x hx => HNO.out k x (List.getElem?_eq_some_iff.1 hx).1 hx
      have HANY : Hid (its.any (fun x => badK x.k) = false) := by
        show _ = _
        rw [List.any_eq_false]
        intro x hx
        obtain ⟨k, hk⟩ := List.mem_iff_getElem?.1 hx
        rw [HNB.out k x hk]
        simp
      clear HNO
      obtain ⟨w2, hw2⟩ : ∃ w2, w2 = w.alloc (.cells #[.slice none 0 0, .int .i64 0] 69) := ⟨_, rfl⟩
      obtain ⟨r, hr⟩ : ∃ r, r = w.heap.size := ⟨_, rfl⟩
      have B2 : Hid (Below w.heap.size w w2) := by show Below _ _ _; rw [hw2]; exact alloc_below _ _
      have R2 : Hid (RoAt w2 r (encS (its.take 0)) (fun _ => False)) := by
        refine ⟨.slice none 0 0, [], ?_, Bs.nil _, fun _ => rfl, U8At.nil _ _ _, fun k hk => by cases hk⟩
        rw [hw2, hr]
        exact RowAt.new _ _ _
      have hrl : w.heap.size ≤ r := by omega
      have HW2 := Lib.hid hw2
      have HR2 := Lib.hid hr
      clear hw2 hr
      go_wp2_with fail
      rw [← HW2.out, ← HR2.out]
      go_loopw [7] (fun i wr => ∃ j : Nat, j ≤ its.length ∧ i = .int .i64 (j : Int) ∧ RoAt wr r (encS (its.take j)) (fun _ => False) ∧ Below w.heap.size w wr) (fun i _ => its.length - (intOf i).toNat)
      case atStart => exact ⟨0, by omega, rfl, R2.out, B2.out⟩
      case round =>
        clear R2 B2 HW2 HR2
        obtain ⟨j, hj, rfl, hR, hB⟩ := hrel
        have HR := Lib.hid hR
        have HB := Lib.hid hB
        clear hR hB
        by_cases hlt : j < its.length
        · have hlt2 : (j : Int) < (its.length : Int) := by omega
          have hw1 : IntKind.i64.wrap ((j : Int) + 1) = (j : Int) + 1 := IntWalk.i64_in _ (by omega)
          have hq0 : ¬ ((j : Int) < 0) := by omega
          obtain ⟨x, hx⟩ : ∃ x, its[j]? = some x := ⟨_, List.getElem?_eq_getElem hlt⟩
          obtain ⟨hb0, hk0, hn0⟩ := HI.out j x hx
          have HST := Lib.hid (encS_take its j x hx)
          obtain ⟨b0, off, rfl, hc⟩ := Its.cells (v := .slice A its.length c) (c := c) HQ3.out j x hx
          have HC := Lib.hid hc
          have hsl : (encS (its.take j)).l.length ≤ 900000000 := by
            have h1 := encS_length (its.take j) fun x hx => H32.out x (List.mem_of_mem_take hx)
            rw [List.length_take_of_le (by omega)] at h1
            omega
          obtain ⟨s, hs'⟩ : ∃ s, s = encS (its.take j) := ⟨_, rfl⟩
          rw [← hs'] at HR HST hsl
          have HBb := Lib.hid (hb0.below HB.out)
          have HKk := Lib.hid (hk0.below HB.out)
          have c0 := hc wr HB.out 0 _ rfl
          have c2 := hc wr HB.out 2 _ rfl
          have c3 := hc wr HB.out 3 _ rfl
          rw [Nat.add_zero] at c0
          obtain ⟨BV, hBV⟩ : ∃ BV, BV = bv j := ⟨_, rfl⟩
          obtain ⟨LV, hLV⟩ : ∃ LV, LV = lv j := ⟨_, rfl⟩
          rw [← hBV] at HBb c2 HC
          rw [← hLV] at HKk c3 HC
          obtain ⟨BA, bc, hbv2, _, _, _⟩ := HBb.out
          obtain ⟨LA, lc, hlv2, _, _, _, _⟩ := HKk.out
          have HNN := Lib.hid hn0
          rw [hbv2] at c2 HBb
          rw [hlv2] at c3 HKk
          clear hc hx hb0 hk0 hs' hBV hLV hn0
          by_cases h9 : x.k = 9
          · have hd9 : decide (x.k = 9) = true := by simp [h9]
            have HIT : Hid (s.item x = s.wByt x.b) := by show _ = _; unfold St.item; rw [if_pos h9]
            rw [h9] at c0
            go_wp2_with fail
            refine (roBytes_any wr (fun _ => False) r s _ x.b HR.out HBb.out hsl (fun k hk => hk.elim)).mono ?_
            intro e w5 hh
            obtain ⟨he, h5, g5⟩ := hh
            subst he
            rw [← HIT.out, ← HST.out] at h5
            have R5 := Lib.hid h5
            have B5 : Hid (Below w.heap.size w w5) := HB.out.grown g5 HB.out.size (fun k e => by injection e with e; omega)
            clear h5 g5
            go_wp2_with fail
            go_roundw
            case rel => exact ⟨j + 1, by omega, by go_num, R5.out, B5.out⟩
            case measure => simp [intOf]; omega
          · have hd9 : decide (x.k = 9) = false := by simp [h9]
            by_cases h32 : x.k = 32
            · have HIT : Hid (s.item x = s.wKey x.l) := by show _ = _; unfold St.item; rw [if_neg h9, if_pos h32]
              rw [h32] at c0
              go_wp2_with fail
              refine (roKeys_any wr (fun _ => False) r s _ x.l HR.out HKk.out hsl (fun k hk => hk.elim)).mono ?_
              intro e w5 hh
              obtain ⟨he, h5, g5⟩ := hh
              subst he
              rw [← HIT.out, ← HST.out] at h5
              have R5 := Lib.hid h5
              have B5 : Hid (Below w.heap.size w w5) := HB.out.grown g5 HB.out.size (fun k e => by injection e with e; omega)
              clear h5 g5
              go_wp2_with fail
              go_roundw
              case rel => exact ⟨j + 1, by omega, by go_num, R5.out, B5.out⟩
              case measure => simp [intOf]; omega
            · have hd32 : decide (x.k = 32) = false := by simp [h32]
              have HIT : Hid (s.item x = s.wNum x.n x.k) := by show _ = _; unfold St.item; rw [if_neg h9, if_neg h32]
              go_wp2_with fail
              refine plain_region (S := fun W => Below w.heap.size w W) (fin := fun _ => false) (by kernel_rfl) ?_
              have hS : Below w.heap.size w wr.drew := HB.out.drew
              change walkS _ _ _ _ _ _ 12 _ _ _
              refine walkS_take (i := 0) (oi := ⟨some 37, _, _, _, _, _⟩) (v := .pointer (some ⟨r, 0, none⟩)) rfl (by kernel_rfl) (by kernel_rfl) (fun _ _ _ h => h) _ _ _ _ (by kernel_rfl) (by kernel_rfl) (Or.inl ⟨by rfl, fun w' hS' => (by clear hS hS'; go_simp)⟩) hS ?_
              try simp only [Act.put, List.setIfInBounds_toArray, List.set_cons_zero, List.set_cons_succ]
              refine walkS_take (i := 1) (oi := ⟨some 38, _, _, _, _, _⟩) (v := .slice (some ⟨b0, off, none⟩) its.length c) rfl (by kernel_rfl) (by kernel_rfl) (fun _ _ _ h => h) _ _ _ _ (by kernel_rfl) (by kernel_rfl) (Or.inl ⟨by rfl, fun w' hS' => (by clear hS hS'; go_simp)⟩) hS ?_
              try simp only [Act.put, List.setIfInBounds_toArray, List.set_cons_zero, List.set_cons_succ]
              refine walkS_take (i := 2) (oi := ⟨some 39, _, _, _, _, _⟩) (v := .int .i64 (j : Int)) rfl (by kernel_rfl) (by kernel_rfl) (fun _ _ _ h => h) _ _ _ _ (by kernel_rfl) (by kernel_rfl) (Or.inl ⟨by rfl, fun w' hS' => (by clear hS hS'; go_simp)⟩) hS ?_
              try simp only [Act.put, List.setIfInBounds_toArray, List.set_cons_zero, List.set_cons_succ]
              refine walkS_take (i := 3) (oi := ⟨some 40, _, _, _, _, _⟩) (v := .pointer (some ⟨b0, off + j * 4, none⟩)) rfl (by kernel_rfl) (by kernel_rfl) (fun _ _ _ h => h) _ _ _ _ (by kernel_rfl) (by kernel_rfl) (Or.inl ⟨by rfl, fun w' hS' => (by clear hS hS'; go_simp)⟩) hS ?_
              try simp only [Act.put, List.setIfInBounds_toArray, List.set_cons_zero, List.set_cons_succ]
              refine walkS_take (i := 4) (oi := ⟨some 41, _, _, _, _, _⟩) (v := .pointer (some ⟨b0, off + j * 4 + 1, none⟩)) rfl (by kernel_rfl) (by kernel_rfl) (fun _ _ _ h => h) _ _ _ _ (by kernel_rfl) (by kernel_rfl) (Or.inl ⟨by rfl, fun w' hS' => (by clear hS hS'; go_simp)⟩) hS ?_
              try simp only [Act.put, List.setIfInBounds_toArray, List.set_cons_zero, List.set_cons_succ]
              refine walkS_take (i := 5) (oi := ⟨some 42, _, _, _, _, _⟩) (v := .int .u64 (x.n : Int)) rfl (by kernel_rfl) (by kernel_rfl) (fun _ _ _ h => h) _ _ _ _ (by kernel_rfl) (by kernel_rfl) (Or.inl ⟨by rfl, fun w' hS' => (by have c1 := HC.out w' hS' 1 _ rfl; clear hS hS'; go_simp)⟩) hS ?_
              try simp only [Act.put, List.setIfInBounds_toArray, List.set_cons_zero, List.set_cons_succ]
              refine walkS_take (i := 6) (oi := ⟨some 43, _, _, _, _, _⟩) (v := .slice (some ⟨b0, off, none⟩) its.length c) rfl (by kernel_rfl) (by kernel_rfl) (fun _ _ _ h => h) _ _ _ _ (by kernel_rfl) (by kernel_rfl) (Or.inl ⟨by rfl, fun w' hS' => (by clear hS hS'; go_simp)⟩) hS ?_
              try simp only [Act.put, List.setIfInBounds_toArray, List.set_cons_zero, List.set_cons_succ]
              refine walkS_take (i := 7) (oi := ⟨some 44, _, _, _, _, _⟩) (v := .int .i64 (j : Int)) rfl (by kernel_rfl) (by kernel_rfl) (fun _ _ _ h => h) _ _ _ _ (by kernel_rfl) (by kernel_rfl) (Or.inl ⟨by rfl, fun w' hS' => (by clear hS hS'; go_simp)⟩) hS ?_
              try simp only [Act.put, List.setIfInBounds_toArray, List.set_cons_zero, List.set_cons_succ]
              refine walkS_take (i := 8) (oi := ⟨some 45, _, _, _, _, _⟩) (v := .pointer (some ⟨b0, off + j * 4, none⟩)) rfl (by kernel_rfl) (by kernel_rfl) (fun _ _ _ h => h) _ _ _ _ (by kernel_rfl) (by kernel_rfl) (Or.inl ⟨by rfl, fun w' hS' => (by clear hS hS'; go_simp)⟩) hS ?_
              try simp only [Act.put, List.setIfInBounds_toArray, List.set_cons_zero, List.set_cons_succ]
              refine walkS_take (i := 9) (oi := ⟨some 46, _, _, _, _, _⟩) (v := .pointer (some ⟨b0, off + j * 4, none⟩)) rfl (by kernel_rfl) (by kernel_rfl) (fun _ _ _ h => h) _ _ _ _ (by kernel_rfl) (by kernel_rfl) (Or.inl ⟨by rfl, fun w' hS' => (by clear hS hS'; go_simp)⟩) hS ?_
              try simp only [Act.put, List.setIfInBounds_toArray, List.set_cons_zero, List.set_cons_succ]
              refine walkS_take (i := 10) (oi := ⟨some 47, _, _, _, _, _⟩) (v := .int .i64 x.k) rfl (by kernel_rfl) (by kernel_rfl) (fun _ _ _ h => h) _ _ _ _ (by kernel_rfl) (by kernel_rfl) (Or.inl ⟨by rfl, fun w' hS' => (by have c1 := HC.out w' hS' 0 _ rfl; rw [Nat.add_zero] at c1; clear hS hS'; go_simp)⟩) hS ?_
              try simp only [Act.put, List.setIfInBounds_toArray, List.set_cons_zero, List.set_cons_succ]
              clear hS
              refine walkS_only (i := 11) (o := ⟨some 48, _, _, _, _, _⟩) (by kernel_rfl) rfl rfl fun KK hKK => ?_
              go_simp
              refine (roNumber_any wr.drew (fun _ => False) r s x.n x.k HNN.out HR.out hsl (fun k hk => hk.elim)).mono ?_
              intro e w5 hh
              obtain ⟨he, h5, g5⟩ := hh
              subst he
              rw [← HIT.out, ← HST.out] at h5
              have R5 := Lib.hid h5
              have B5 : Hid (Below w.heap.size w w5) := HB.out.drew.grown g5 HB.out.size (fun k e => by injection e with e; omega)
              refine hKK _ _ (.inr B5.out) (walkS_done (by kernel_rfl) ?_ _)
              clear hKK KK h5 g5
              go_wp2_with fail
              go_roundw
              case rel => exact ⟨j + 1, by omega, by go_num, R5.out, B5.out⟩
              case measure => simp [intOf]; omega
        · have hj2 : j = its.length := by omega
          subst hj2
          rw [List.take_length] at HR
          have HOI := Lib.hid (out_inv (encS its) (encS_inv its))
          have HD := Lib.hid (roDone_any wr (fun _ => False) r (encS its) HR.out)
          rw [HOI.out] at HD
          go_wp2_with fail
          refine HD.out.mono ?_
          intro e w9 hh
          obtain ⟨u, he, hu, b9⟩ := hh
          subst he
          have HU := Lib.hid hu
          have B9 := Lib.hid (below_size HB.out b9)
          obtain ⟨UA, uc, rfl, _, _, _⟩ := hu
          clear b9
          go_wp2_with fail
          go_ret2
          exact ⟨B9.out, .inr ⟨HANY.out, _, rfl, HU.out⟩⟩
end Go.Proofs.Ytjhhpakaemnemaa
end
section
namespace Go.Proofs.Ytjhhpakaemnemaa
open Go.RowKit
set_option linter.unusedVariables false
set_option maxRecDepth 20000

/-- The document's In at r, over the bytes b that bv reads as. -/
def RiAt (w : World) (r : Nat) (bv : Value) (b : List UInt8) (s : St) : Prop :=
  Bs w bv b ∧ ∃ at_ : Nat, RowAt w r 45 #[bv, .int .i64 (at_ : Int), .int .i64 s.e] ∧ at_ ≤ b.length ∧ (s.e = 0 → s.l = b.drop at_)
theorem no_u8R {w : World} {v : Value} {l : List UInt8} (h : Bs w v l) (a e : Int) : ∀ (j : Nat) (x : Int), (#[v, .int .i64 a, .int .i64 e] : Array Value)[j]? ≠ some (Value.int .u8 x) := by
  obtain ⟨A, c, rfl, _⟩ := h
  intro j x hx
  match j, hx with
  | 0, hx => simp at hx
  | 1, hx => simp at hx
  | 2, hx => simp at hx
theorem RiAt.kept {w w' : World} {r : Nat} {bv : Value} {b : List UInt8} {s : St} (h : RiAt w r bv b s) (hb : Below w.heap.size w w') : RiAt w' r bv b s := by
  obtain ⟨h0, a, h1, h2, h3⟩ := h
  exact ⟨h0.below hb, a, h1.kept hb, h2, h3⟩
theorem RiAt.lt {w : World} {r : Nat} {bv : Value} {b : List UInt8} {s : St} (h : RiAt w r bv b s) : r < w.heap.size := by obtain ⟨_, a, h1, _⟩ := h; exact h1.lt
theorem RiAt.bs {w w' : World} {r : Nat} {bv u : Value} {b l : List UInt8} {s : St} (h : RiAt w r bv b s) (hb : Bs w u l) (hg : w.grownBy w' (some r)) : Bs w' u l := by
  obtain ⟨h0, a, h1, _⟩ := h
  exact hb.turn h1 (no_u8R h0 _ _) hg
theorem RiAt.kl {w w' : World} {r : Nat} {bv u : Value} {b : List UInt8} {l : List (List UInt8)} {s : St} (h : RiAt w r bv b s) (hb : Kl w u l) (hg : w.grownBy w' (some r)) : Kl w' u l := by
  obtain ⟨h0, a, h1, _⟩ := h
  exact hb.turn h1 (no_u8R h0 _ _) hg
theorem RowAt.put3b {w : World} {i : Nat} {t : TypeId} {x y z : Value} (h : RowAt w i t #[x, y, z]) (a : Value) : RowAt (w.setCell ⟨i, 1, none⟩ a) i t #[x, a, z] := h.put 1 a
theorem RowAt.put3c {w : World} {i : Nat} {t : TypeId} {x y z : Value} (h : RowAt w i t #[x, y, z]) (a : Value) : RowAt (w.setCell ⟨i, 2, none⟩ a) i t #[x, y, a] := h.put 2 a

theorem take_yes (s : St) (n : Nat) (h : s.e = 0) (hn : n ≤ s.l.length) : s.take n = s.l.take n ∧ s.rest n = ⟨s.l.drop n, 0⟩ := by
  have e : s.taken n = s := by unfold St.taken; exact if_neg (by omega)
  unfold St.take St.rest
  rw [e, if_pos h, if_pos h]
  exact ⟨rfl, rfl⟩
set_option maxHeartbeats 1000000 in
theorem riFail_any (w : World) (r : Nat) (bv : Value) (b : List UInt8) (s : St) (x : Int) (hx : x ≠ 0) (h : RiAt w r bv b s) :
    Calls Try.prog 51 #[.pointer (some ⟨r, 0, none⟩), .int .i64 x] w fun e w' => e = .returned (.tuple #[]) ∧ RiAt w' r bv b (s.fail x) ∧ w.grownBy w' (some r) := by
  have HH := Lib.hid h
  obtain ⟨l, y⟩ := s
  obtain ⟨hv, a, hr, ha, hl⟩ := h
  have c2 : w.cell? ⟨r, 2, none⟩ = some (.int .i64 y) := hr.cell 2
  have z2 : w.frozen? ⟨r, 2, none⟩ = false := hr.frozen 2
  have HR := Lib.hid hr
  have HV := Lib.hid hv
  clear hr hl hv
  by_cases hy : y = 0
  · subst hy
    go_enter Try.func51, Try.ntmps51
    go_wp2
    go_end0
    exact ⟨rfl, ⟨HV.out.turn HR.out (no_u8R HV.out _ _) (grown_setCell _ _ _ _), a, HR.out.put3c _, ha, fun e => absurd e hx⟩, grown_setCell _ _ _ _⟩
  · have hd : decide (y = 0) = false := by simp [hy]
    go_enter Try.func51, Try.ntmps51
    go_wp2
    go_end0
    refine ⟨rfl, ?_, World.grownBy.refl _ _⟩
    unfold St.fail
    rw [if_neg hy]
    exact HH.out

/-- A slice that lies in the block of another. -/
def InB (v bv : Value) : Prop := ∀ k, v.ownBlock = some k → bv.ownBlock = some k
theorem InB.nil (n c : Nat) (bv : Value) : InB (.slice none n c) bv := fun k h => by cases h
theorem InB.same (A : Option Addr) (n c n2 c2 : Nat) : InB (.slice A n c) (.slice A n2 c2) := fun k h => by
  cases A with
  | none => cases h
  | some p => exact h
theorem InB.add (A : Option Addr) (n c n2 c2 j : Nat) : InB (.slice (A.map fun x => x.add j) n c) (.slice A n2 c2) := fun k h => by
  cases A with
  | none => cases h
  | some p =>
    have e : (p.add j).block = p.block := by unfold Addr.add; split <;> rfl
    have h2 : some (p.add j).block = some k := h
    rw [e] at h2
    exact h2
set_option maxHeartbeats 2000000 in
theorem riTakeIn (w : World) (r : Nat) (bv : Value) (b : List UInt8) (s : St) (n : Nat) (hn : n ≤ 100000000) (hbl : b.length ≤ 1000000000) (h : RiAt w r bv b s) :
    Calls Try.prog 53 #[.pointer (some ⟨r, 0, none⟩), .int .i64 (n : Int)] w fun e w' => ∃ v, e = .returned v ∧ (Bs w' v (s.take n) ∧ InB v bv) ∧ RiAt w' r bv b (s.rest n) ∧ w.grownBy w' (some r) := by
  have HH := Lib.hid h
  obtain ⟨l, y⟩ := s
  obtain ⟨hv, a, hr, ha, hl⟩ := h
  have c0 : w.cell? ⟨r, 0, none⟩ = some bv := hr.cell 0
  have c1 : w.cell? ⟨r, 1, none⟩ = some (.int .i64 (a : Int)) := hr.cell 1
  have c2 : w.cell? ⟨r, 2, none⟩ = some (.int .i64 y) := hr.cell 2
  have z1 : w.frozen? ⟨r, 1, none⟩ = false := hr.frozen 1
  have z2 : w.frozen? ⟨r, 2, none⟩ = false := hr.frozen 2
  have HR := Lib.hid hr
  have HV := Lib.hid hv
  obtain ⟨A, c, rfl, h1, h2, _⟩ := hv
  unfold maxLen at h2
  simp only at hl
  have hw1 : IntKind.i64.wrap ((a : Int) + (n : Int)) = (a : Int) + (n : Int) := IntWalk.i64_in _ (by omega)
  clear hr
  by_cases hy : y = 0
  · subst hy
    have hle : l = b.drop a := hl rfl
    have hll : l.length = b.length - a := by rw [hle, List.length_drop]
    by_cases hs : (b.length : Int) < (a : Int) + (n : Int)
    · obtain ⟨t1, t2⟩ := take_no ⟨l, 0⟩ n rfl (by simp only; omega)
      have T1 := Lib.hid t1
      have T2 := Lib.hid t2
      clear t1 t2 hl hle hll
      go_enter Try.func53, Try.ntmps53
      go_wp2
      go_quiet (fail)
      go_wp2
      go_ret
      have hg := grown_setCell (w.drewN nq) r 2 (.int .i64 3)
      have hg2 : w.grownBy ((w.drewN nq).setCell ⟨r, 2, none⟩ (.int .i64 3)) (some r) := (grown_drewN (World.grownBy.refl w (some r)) nq).trans hg
      exact ⟨_, rfl, ⟨by rw [T1.out]; exact Bs.nil _, InB.nil _ _ _⟩, by rw [T2.out]; exact ⟨(HV.out.drewN nq).turn (HR.out.drewN nq) (no_u8R HV.out _ _) hg, a, (HR.out.drewN nq).put3c _, ha, fun e => absurd e (by decide)⟩, hg2⟩
    · obtain ⟨t1, t2⟩ := take_yes ⟨l, 0⟩ n rfl (by simp only; omega)
      simp only at t1 t2
      rw [hle, List.drop_drop] at t2
      rw [hle] at t1
      have T1 : Hid (St.take ⟨l, 0⟩ n = (b.drop a).take n) := by show _ = _; rw [← t1, hle]
      have T2 : Hid (St.rest ⟨l, 0⟩ n = ⟨b.drop (a + n), 0⟩) := by show _ = _; rw [← t2, hle]
      clear t1 t2
      have HCT := Lib.hid ((HV.out.cut a ha).fore n (by rw [List.length_drop]; omega))
      have hw2 : IntKind.i64.wrap ((a : Int) + (n : Int) - (n : Int)) = (a : Int) := by rw [IntWalk.i64_in _ (by omega)]; omega
      have hb0 : (0 : Int) ≤ (a : Int) := by omega
      have hb1 : (a : Int) ≤ (a : Int) + (n : Int) := by omega
      have hb2 : (a : Int) + (n : Int) ≤ (c : Int) := by omega
      have hb3 : (0 : Int) ≤ (a : Int) + (n : Int) := by omega
      have hb4 : ((a : Int) + (n : Int)).toNat = a + n := by omega
      have hb5 : a + n - a = n := by omega
      have hq1 : (a : Int) + (n : Int) - (n : Int) = (a : Int) := by omega
      clear hl hle hll
      by_cases hca : c = a
      · rw [if_pos hca, show c - a = 0 by omega] at HCT
        have HP : Hid (((a + n : Nat) : Int) = (a : Int) + (n : Int)) := by show _ = _; omega
        go_enter Try.func53, Try.ntmps53
        go_wp2
        go_quiet (fail)
        go_wp2
        go_quiet (fail)
        go_wp2
        go_ret
        exact ⟨_, rfl, ⟨by rw [T1.out]; exact ((HCT.out.drewN _).turn (HR.out.drewN _) (no_u8R HV.out _ _) (grown_setCell _ _ _ _)).drewN _, InB.same _ _ _ _ _⟩, by rw [T2.out]; exact ⟨((HV.out.drewN _).turn (HR.out.drewN _) (no_u8R HV.out _ _) (grown_setCell _ _ _ _)).drewN _, a + n, by rw [HP.out]; exact ((HR.out.drewN _).put3b _).drewN _, by omega, fun _ => rfl⟩, grown_drewN ((grown_drewN (World.grownBy.refl w (some r)) _).trans (grown_setCell _ r 1 _)) _⟩
      · rw [if_neg hca] at HCT
        have HP : Hid (((a + n : Nat) : Int) = (a : Int) + (n : Int)) := by show _ = _; omega
        go_enter Try.func53, Try.ntmps53
        go_wp2
        go_quiet (fail)
        go_wp2
        go_quiet (fail)
        go_wp2
        go_ret
        exact ⟨_, rfl, ⟨by rw [T1.out]; exact ((HCT.out.drewN _).turn (HR.out.drewN _) (no_u8R HV.out _ _) (grown_setCell _ _ _ _)).drewN _, InB.add _ _ _ _ _ _⟩, by rw [T2.out]; exact ⟨((HV.out.drewN _).turn (HR.out.drewN _) (no_u8R HV.out _ _) (grown_setCell _ _ _ _)).drewN _, a + n, by rw [HP.out]; exact ((HR.out.drewN _).put3b _).drewN _, by omega, fun _ => rfl⟩, grown_drewN ((grown_drewN (World.grownBy.refl w (some r)) _).trans (grown_setCell _ r 1 _)) _⟩
  · obtain ⟨t1, t2⟩ := take_err ⟨l, y⟩ n hy
    have T1 := Lib.hid t1
    have T2 := Lib.hid t2
    have hd : decide (y = 0) = false := by simp [hy]
    clear t1 t2 hl
    go_enter Try.func53, Try.ntmps53
    go_wp2
    go_quiet (fail)
    go_wp2
    go_ret
    exact ⟨_, rfl, ⟨by rw [T1.out]; exact Bs.nil _, InB.nil _ _ _⟩, by rw [T2.out]; exact HH.out.kept (below_drewN (Below.refl _ _) nq), grown_drewN (World.grownBy.refl w (some r)) nq⟩

theorem riTake_any (w : World) (r : Nat) (bv : Value) (b : List UInt8) (s : St) (n : Nat) (hn : n ≤ 100000000) (hbl : b.length ≤ 1000000000) (h : RiAt w r bv b s) :
    Calls Try.prog 53 #[.pointer (some ⟨r, 0, none⟩), .int .i64 (n : Int)] w fun e w' => ∃ v, e = .returned v ∧ Bs w' v (s.take n) ∧ RiAt w' r bv b (s.rest n) ∧ w.grownBy w' (some r) :=
  (riTakeIn w r bv b s n hn hbl h).mono fun _ _ ⟨v, h1, h2, h3⟩ => ⟨v, h1, h2.1, h3⟩

set_option maxHeartbeats 1000000 in
theorem riNumber_any (w : World) (r : Nat) (bv : Value) (b : List UInt8) (s : St) (z : Int) (hbl : b.length ≤ 1000000000) (h : RiAt w r bv b s) :
    Calls Try.prog 20 #[.pointer (some ⟨r, 0, none⟩), .int .i64 z] w fun e w' => e = .returned (.int .u64 (s.num z : Int)) ∧ RiAt w' r bv b (s.numS z) ∧ w.grownBy w' (some r) := by
  have HH := Lib.hid h
  have HZ : Hid (∀ w, Calls Try.prog 50 #[.int .i64 z] w fun e w' => e = .returned (.bool (isNum z)) ∧ w = w') := fun w => refSize_any w z
  clear h
  by_cases hz : isNum z = true
  · obtain ⟨n, rfl⟩ : ∃ n : Nat, z = n := ⟨z.toNat, by have := inNum_shape z hz; omega⟩
    have hn8 : n ≤ 8 := by have := inNum_shape n hz; omega
    have H1 : Hid (s.num n = ofHighB ((s.take n).take 8)) := by show _ = _; unfold St.num; rw [if_pos hz]; rfl
    have H2 : Hid (s.numS n = s.rest n) := by show _ = _; unfold St.numS; rw [if_pos hz]; rfl
    have HT := Lib.hid (fun w h => riTake_any w r bv b s n (by omega) hbl h)
    rw [hz] at HZ
    clear hz
    go_enter Try.func20, Try.ntmps20
    go_wp2_with fail
    refine (HZ.out _).mono ?_
    intro e w1 hh
    obtain ⟨he, hw⟩ := hh
    subst he hw
    go_wp2_with fail
    refine (HT.out _ HH.out).mono ?_
    intro e w2 hh
    obtain ⟨v, he, hv, hi, hg⟩ := hh
    subst he
    have HI2 := Lib.hid hi
    have HG2 := Lib.hid hg
    have HV := Lib.hid hv
    obtain ⟨A, c, rfl, _, _, _⟩ := hv
    clear hi hg
    go_wp2_with fail
    refine (refOfHigh_any _ _ _ HV.out).mono ?_
    intro e w3 hh
    obtain ⟨he, hw⟩ := hh
    subst he hw
    go_wp2
    go_ret
    exact ⟨by rw [H1.out]; rfl, by rw [H2.out]; exact HI2.out, HG2.out⟩
  · have hz : isNum z = false := by simpa using hz
    have H1 : Hid (s.num z = 0) := by show _ = _; unfold St.num; rw [hz]; rfl
    have H2 : Hid (s.numS z = s.fail 51) := by show _ = _; unfold St.numS; rw [hz]; rfl
    have HT := Lib.hid (fun w h => riFail_any w r bv b s 51 (by decide) h)
    rw [hz] at HZ
    clear hz
    go_enter Try.func20, Try.ntmps20
    go_wp2_with fail
    refine (HZ.out _).mono ?_
    intro e w1 hh
    obtain ⟨he, hw⟩ := hh
    subst he hw
    go_wp2_with fail
    refine (HT.out _ HH.out).mono ?_
    intro e w2 hh
    obtain ⟨he, hi, hg⟩ := hh
    subst he
    have HI2 := Lib.hid hi
    have HG2 := Lib.hid hg
    clear hi hg
    go_wp2
    go_ret
    exact ⟨by rw [H1.out]; rfl, by rw [H2.out]; exact HI2.out, HG2.out⟩

/-- The document's way to say too many: the first error stays, and what is taken then is nothing. -/
def St.cap (s : St) (m : Int) (k : Int) : St := if (s.num 2 : Int) > m ∨ (s.num 2 : Int) > k then (s.numS 2).fail 2 else s.numS 2
theorem cap_take (s : St) (m k : Int) (f : Nat) : (s.cap m k).take (f * s.num 2) = (s.cntS (min m k)).take (f * s.cnt (min m k)) ∧ (s.cap m k).rest (f * s.num 2) = (s.cntS (min m k)).rest (f * s.cnt (min m k)) := by
  unfold St.cap St.cntS St.cnt
  by_cases h : (s.num 2 : Int) > m ∨ (s.num 2 : Int) > k
  · have h2 : (s.num 2 : Int) > min m k := by omega
    rw [if_pos h, if_pos h2, if_pos h2]
    have hne := fail_ne (s.numS 2) 2 (by decide)
    obtain ⟨a1, a2⟩ := take_err _ (f * s.num 2) hne
    obtain ⟨b1, b2⟩ := take_err _ (f * 0) hne
    rw [a1, a2, b1, b2]
    exact ⟨rfl, rfl⟩
  · have h2 : ¬ ((s.num 2 : Int) > min m k) := by omega
    rw [if_neg h, if_neg h2, if_neg h2]
    exact ⟨rfl, rfl⟩
set_option maxHeartbeats 1000000 in
theorem riBytesIn (w : World) (r : Nat) (bv : Value) (b : List UInt8) (s : St) (m : Int) (hbl : b.length ≤ 1000000000) (h : RiAt w r bv b s) :
    Calls Try.prog 22 #[.pointer (some ⟨r, 0, none⟩), .int .i64 m] w fun e w' => ∃ v, e = .returned v ∧ (Bs w' v (s.byt m) ∧ InB v bv) ∧ RiAt w' r bv b (s.bytS m) ∧ w.grownBy w' (some r) := by
  have HH := Lib.hid h
  have HN := Lib.hid (fun w h => riNumber_any w r bv b s 2 hbl h)
  obtain ⟨t1, t2⟩ := cap_take s m 4000 1
  rw [Nat.one_mul, Nat.one_mul] at t1 t2
  have H1 : Hid (s.byt m = (s.cap m 4000).take (s.num 2)) := t1.symm
  have H2 : Hid (s.bytS m = (s.cap m 4000).rest (s.num 2)) := t2.symm
  have hlt := s.num_lt
  obtain ⟨N, hN⟩ : ∃ N, N = s.num 2 := ⟨_, rfl⟩
  obtain ⟨S, hS⟩ : ∃ S, S = s.numS 2 := ⟨_, rfl⟩
  have hw : IntKind.i64.wrap (N : Int) = (N : Int) := IntWalk.i64_in _ (by omega)
  have hcap : s.cap m 4000 = if (N : Int) > m ∨ (N : Int) > 4000 then S.fail 2 else S := by rw [hN, hS]; rfl
  obtain ⟨C, hC⟩ : ∃ C, C = s.cap m 4000 := ⟨_, rfl⟩
  have HT := Lib.hid (fun w h => riTakeIn w r bv b C N (by omega) hbl h)
  have HF := Lib.hid (fun w h => riFail_any w r bv b S 2 (by decide) h)
  rw [← hC] at H1 H2 hcap
  rw [← hN] at H1 H2 HN
  rw [← hS] at HN
  clear h t1 t2 hN hS hC hlt
  by_cases hm : m < (N : Int)
  · have hCF : C = S.fail 2 := by rw [hcap, if_pos (.inl hm)]
    subst hCF
    clear hcap
    go_enter Try.func22, Try.ntmps22
    go_wp2_with fail
    refine (HN.out _ HH.out).mono ?_
    intro e w1 hh
    obtain ⟨he, hi, hg⟩ := hh
    subst he
    have I1 := Lib.hid hi
    have G1 := Lib.hid hg
    clear hi hg
    go_wp2_with fail
    refine (HF.out _ I1.out).mono ?_
    intro e w2 hh
    obtain ⟨he, hi, hg⟩ := hh
    subst he
    have I2 := Lib.hid hi
    have G2 := Lib.hid (G1.out.trans hg)
    clear hi hg
    go_wp2_with fail
    refine (HT.out _ I2.out).mono ?_
    intro e w3 hh
    obtain ⟨v, he, ⟨hv, hin⟩, hi, hg⟩ := hh
    subst he
    have I3 := Lib.hid hi
    have G3 := Lib.hid (G2.out.trans hg)
    have V3 := Lib.hid hv
    have N3 := Lib.hid hin
    obtain ⟨A, c, rfl, _, _, _⟩ := hv
    clear hin
    clear hi hg
    go_wp2
    go_ret
    exact ⟨_, rfl, ⟨by rw [H1.out]; exact V3.out, N3.out⟩, by rw [H2.out]; exact I3.out, G3.out⟩
  · by_cases hk : (4000 : Int) < (N : Int)
    · have hCF : C = S.fail 2 := by rw [hcap, if_pos (.inr hk)]
      subst hCF
      clear hcap
      go_enter Try.func22, Try.ntmps22
      go_wp2_with fail
      refine (HN.out _ HH.out).mono ?_
      intro e w1 hh
      obtain ⟨he, hi, hg⟩ := hh
      subst he
      have I1 := Lib.hid hi
      have G1 := Lib.hid hg
      clear hi hg
      go_wp2_with fail
      refine (HF.out _ I1.out).mono ?_
      intro e w2 hh
      obtain ⟨he, hi, hg⟩ := hh
      subst he
      have I2 := Lib.hid hi
      have G2 := Lib.hid (G1.out.trans hg)
      clear hi hg
      go_wp2_with fail
      refine (HT.out _ I2.out).mono ?_
      intro e w3 hh
      obtain ⟨v, he, ⟨hv, hin⟩, hi, hg⟩ := hh
      subst he
      have I3 := Lib.hid hi
      have G3 := Lib.hid (G2.out.trans hg)
      have V3 := Lib.hid hv
      have N3 := Lib.hid hin
      obtain ⟨A, c, rfl, _, _, _⟩ := hv
      clear hin
      clear hi hg
      go_wp2
      go_ret
      exact ⟨_, rfl, ⟨by rw [H1.out]; exact V3.out, N3.out⟩, by rw [H2.out]; exact I3.out, G3.out⟩
    · have hCF : C = S := by rw [hcap, if_neg (by omega)]
      subst hCF
      clear hcap HF
      go_enter Try.func22, Try.ntmps22
      go_wp2_with fail
      refine (HN.out _ HH.out).mono ?_
      intro e w1 hh
      obtain ⟨he, hi, hg⟩ := hh
      subst he
      have I1 := Lib.hid hi
      have G1 := Lib.hid hg
      clear hi hg
      go_wp2_with fail
      refine (HT.out _ I1.out).mono ?_
      intro e w3 hh
      obtain ⟨v, he, ⟨hv, hin⟩, hi, hg⟩ := hh
      subst he
      have I3 := Lib.hid hi
      have G3 := Lib.hid (G1.out.trans hg)
      have V3 := Lib.hid hv
      have N3 := Lib.hid hin
      obtain ⟨A, c, rfl, _, _, _⟩ := hv
      clear hin
      clear hi hg
      go_wp2
      go_ret
      exact ⟨_, rfl, ⟨by rw [H1.out]; exact V3.out, N3.out⟩, by rw [H2.out]; exact I3.out, G3.out⟩

theorem riBytes_any (w : World) (r : Nat) (bv : Value) (b : List UInt8) (s : St) (m : Int) (hbl : b.length ≤ 1000000000) (h : RiAt w r bv b s) :
    Calls Try.prog 22 #[.pointer (some ⟨r, 0, none⟩), .int .i64 m] w fun e w' => ∃ v, e = .returned v ∧ Bs w' v (s.byt m) ∧ RiAt w' r bv b (s.bytS m) ∧ w.grownBy w' (some r) :=
  (riBytesIn w r bv b s m hbl h).mono fun _ _ ⟨v, h1, h2, h3⟩ => ⟨v, h1, h2.1, h3⟩

set_option maxHeartbeats 1000000 in
theorem riEnd_any (w : World) (r : Nat) (bv : Value) (b : List UInt8) (s : St) (h : RiAt w r bv b s) :
    Calls Try.prog 29 #[.pointer (some ⟨r, 0, none⟩)] w fun e w' => e = .returned (.int .i64 s.fin) ∧ Below w.heap.size w w' := by
  obtain ⟨l, y⟩ := s
  obtain ⟨hv, a, hr, ha, hl⟩ := h
  have c0 : w.cell? ⟨r, 0, none⟩ = some bv := hr.cell 0
  have c1 : w.cell? ⟨r, 1, none⟩ = some (.int .i64 (a : Int)) := hr.cell 1
  have c2 : w.cell? ⟨r, 2, none⟩ = some (.int .i64 y) := hr.cell 2
  obtain ⟨A, c, rfl, h1, h2, _⟩ := hv
  simp only at hl c2
  clear hr
  by_cases hy : y = 0
  · subst hy
    have hle : l = b.drop a := hl rfl
    by_cases hlt : (a : Int) < (b.length : Int)
    · have HF : Hid ((St.mk l 0).fin = 50) := by show _ = _; unfold St.fin; rw [if_pos rfl, if_neg (by simp only; intro e; rw [hle] at e; have := congrArg List.length e; rw [List.length_drop, List.length_nil] at this; omega)]
      clear hl hle
      go_enter Try.func29, Try.ntmps29
      go_wp2
      go_quiet (fail)
      go_wp2
      go_ret
      exact ⟨by rw [HF.out]; rfl, below_drewN (Below.refl _ _) _⟩
    · have HF : Hid ((St.mk l 0).fin = 0) := by show _ = _; unfold St.fin; rw [if_pos rfl, if_pos (by simp only; rw [hle]; exact List.drop_eq_nil_of_le (by omega))]
      clear hl hle
      go_enter Try.func29, Try.ntmps29
      go_wp2
      go_quiet (fail)
      go_wp2
      go_ret
      exact ⟨by rw [HF.out]; rfl, below_drewN (Below.refl _ _) _⟩
  · have hd : decide (y = 0) = false := by simp [hy]
    have HF : Hid ((St.mk l y).fin = y) := by show _ = _; unfold St.fin; rw [if_neg hy]
    clear hl
    go_enter Try.func29, Try.ntmps29
    go_wp2
    go_quiet (fail)
    go_wp2
    go_ret
    exact ⟨by rw [HF.out]; rfl, below_drewN (Below.refl _ _) _⟩

set_option maxHeartbeats 1000000 in
theorem riKey_any (w : World) (r : Nat) (bv : Value) (b : List UInt8) (s : St) (hbl : b.length ≤ 1000000000) (h : RiAt w r bv b s) :
    Calls Try.prog 24 #[.pointer (some ⟨r, 0, none⟩)] w fun e w' => e = .returned (.agg (keyC s.key)) ∧ RiAt w' r bv b (s.rest 32) ∧ w.grownBy w' (some r) := by
  have HH := Lib.hid h
  have hrl := h.lt
  have HT := Lib.hid (fun w h => riTake_any w r bv b s 32 (by omega) hbl h)
  have HK : Hid ((if (s.take 32).length = 32 then s.take 32 else zeroKey) = s.key) := rfl
  have LK : Hid (s.key.length = 32) := by
    show _ = _
    rw [← HK.out]
    split
    · assumption
    · exact zeroKey_length
  obtain ⟨E, hE⟩ : ∃ E : Int, E = if (s.take 32).length = 32 then 0 else if (s.take 32).length < 32 then 3 else 2 := ⟨_, rfl⟩
  have HTK : Hid (∀ w v, Bs w v (s.take 32) → Calls Try.prog 55 #[v] w (RetV w (.tuple #[keyV s.key, .int .i64 E]))) := fun w v h => by rw [hE, ← HK.out]; exact refToKey_any w v _ h
  obtain ⟨key, hkey⟩ : ∃ key, key = s.key := ⟨_, rfl⟩
  rw [← hkey] at LK HTK
  have HKY := Lib.hid hkey
  clear h hE HK hkey
  go_enter Try.func24, Try.ntmps24
  go_wp2_with ((with_reducible refine wpList_alloc_row (o := ⟨some 2, _, _, _, _, _⟩) rfl 52 rfl (keyC zeroKey) Try.zeroK ?_); intro g2 w1 n1)
  have hs := n1.spot
  have hge : w.heap.size ≤ g2 := by omega
  have hne : g2 ≠ r := by omega
  refine (HT.out _ (HH.out.kept n1.below)).mono ?_
  intro e w2 hh
  obtain ⟨v, he, hv, hi, hg⟩ := hh
  subst he
  have R2 := Lib.hid (n1.row.grown hg (by simp [hne]))
  have G2 := Lib.hid ((grown_any n1.below (some r)).trans hg)
  have I2 := Lib.hid hi
  have V2 := Lib.hid hv
  obtain ⟨A, c, rfl, _, _, _⟩ := hv
  clear hi hg n1 hs
  go_wp2_with fail
  refine (HTK.out _ _ V2.out).mono ?_
  intro e w3 hh
  obtain ⟨he, b3⟩ := hh
  subst he
  have R3 := Lib.hid (R2.out.kept b3)
  have G3 := Lib.hid (G2.out.trans (grown_any b3 (some r)))
  have I3 := Lib.hid (I2.out.kept b3)
  clear b3 R2 G2 I2 V2
  have hrz : r < w3.heap.size := I3.out.lt
  go_wp2_with (first
    | ((with_reducible refine wpList_alloc_row (o := ⟨some 3, _, _, _, _, _⟩) rfl 52 rfl (keyC zeroKey) Try.zeroK ?_); intro g3 w4 n4)
    | ((with_reducible refine wpList_store_row (o := ⟨none, _, _, _, _, _⟩) rfl 52 (.tmp 3) (.tmp 9) rfl g3 52 (keyC zeroKey) (keyC key) (by with_unfolding_all rfl) (by with_unfolding_all rfl) n4.row (keyC_same zeroKey_length LK.out) (Try.sizeKey _ LK.out) (keyC_one _) ?_); intro w5 p5; have hb5 : Below w3.heap.size w3 w5 := p5.below n4.below n4.below.size (by rw [n4.spot]; exact Nat.le_refl _))
    | (with_reducible refine wpList_load_row (o := ⟨some 11, _, _, _, _, _⟩) rfl 52 (.tmp 3) rfl g3 (by with_unfolding_all rfl) 52 (keyC key) (0, 0) (.array 32 5) (by with_unfolding_all exact p5.row) Try.underlying52 rfl (Try.sizeKey key LK.out) ?_)
    | ((with_reducible refine wpList_store_row (o := ⟨none, _, _, _, _, _⟩) rfl 52 (.tmp 2) (.tmp 11) rfl g2 52 (keyC zeroKey) (keyC key) (by with_unfolding_all rfl) (by with_unfolding_all rfl) (R3.out.kept hb5) (keyC_same zeroKey_length LK.out) (Try.sizeKey _ LK.out) (keyC_one _) ?_); intro w6 p6))
  have G6 := grown_past (G3.out.trans (grown_any hb5 (some r))) p6.grown (fun k e => by injection e with e; omega)
  refine bodyPost_ret (results_cell_row rfl _ _ g2 52 (keyC key) (0, 0) (.array 32 5) rfl p6.row Try.underlying52 rfl (Try.sizeKey _ LK.out)) rfl ?_
  refine ⟨by rw [HKY.out], ?_, G6⟩
  obtain ⟨h0, a, h1, h2, h3⟩ := I3.out
  exact ⟨HH.out.bs HH.out.1 G6, a, (h1.kept hb5).grown p6.grown (by simp [hne.symm]), h2, h3⟩
end Go.Proofs.Ytjhhpakaemnemaa
end
