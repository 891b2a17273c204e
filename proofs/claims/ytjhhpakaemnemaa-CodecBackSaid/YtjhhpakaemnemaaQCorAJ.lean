/-
  Texts that belong together, merged: CodU, CodecEncodesW, Frame, Open, CodO. Conditions: as each theorem names them.
-/
import Derived.Test.YtjhhpakaemnemaaQCorAI
import Derived.Test.YtjhhpakaemnemaaQCorAA
import Derived.OpenShut
import Derived.Test.YtjhhpakaemnemaaQCorAE
import Derived.Lib.LaidTab
import Derived.Deep.DeepHandedRow
import Derived.Test.YtjhhpakaemnemaaQCorAH
section
namespace Go.Proofs.Ytjhhpakaemnemaa
open Go.RowKit
set_option linter.unusedVariables false
set_option maxRecDepth 20000

set_option maxHeartbeats 1000000 in
theorem refKind_any (w : World) (z : Int) : Calls Try.prog 42 #[.int .i64 z] w fun e w' => e = .returned (.bool (!badK z)) ∧ w = w' := by
  by_cases h1 : z = 1
  · subst h1
    go_enter Try.func42, Try.ntmps42
    go_wp2
    go_ret
    exact ⟨rfl, rfl⟩
  · have d1 : decide (z = 1) = false := by simp [h1]
    by_cases h2 : z = 2
    · subst h2
      go_enter Try.func42, Try.ntmps42
      go_wp2
      go_ret
      exact ⟨rfl, rfl⟩
    · have d2 : decide (z = 2) = false := by simp [h2]
      by_cases h4 : z = 4
      · subst h4
        go_enter Try.func42, Try.ntmps42
        go_wp2
        go_ret
        exact ⟨rfl, rfl⟩
      · have d4 : decide (z = 4) = false := by simp [h4]
        by_cases h8 : z = 8
        · subst h8
          go_enter Try.func42, Try.ntmps42
          go_wp2
          go_ret
          exact ⟨rfl, rfl⟩
        · have d8 : decide (z = 8) = false := by simp [h8]
          by_cases h9 : z = 9
          · subst h9
            go_enter Try.func42, Try.ntmps42
            go_wp2
            go_ret
            exact ⟨rfl, rfl⟩
          · have d9 : decide (z = 9) = false := by simp [h9]
            by_cases h32 : z = 32
            · subst h32
              go_enter Try.func42, Try.ntmps42
              go_wp2
              go_ret
              exact ⟨rfl, rfl⟩
            · have d32 : decide (z = 32) = false := by simp [h32]
              have hbad : badK z = true := by unfold badK posK; simp [h1, h2, h4, h8, h9, h32]
              rw [hbad]
              go_enter Try.func42, Try.ntmps42
              go_wp2
              go_ret
              exact ⟨by simp [h1, h2, h4, h8, h9, h32], rfl⟩

theorem Its.of_own {w : World} {base : Nat} {e : TypeId} {v : Value} {its : List It} {bv lv : Nat → Value} (h : w.ownsRow base e 4 v its.length (itsC its bv lv its.length)) (hI : ∀ (j : Nat) x, its[j]? = some x → Bs w (bv j) x.b ∧ Kl w (lv j) x.l ∧ x.n < 18446744073709551616) : Its w v its := by
  refine ⟨bv, lv, ?_, hI⟩
  rcases h.2 with ⟨h0, h1⟩ | ⟨g, cap, cur, h0, _, hg, h1, h2, _⟩
  · rw [h0, h1]
    exact ⟨none, 0, rfl, Nat.le_refl _, by simp [maxLen], fun h => absurd h (by omega)⟩
  · refine ⟨_, cap, h0, h1, h2, fun _ => ⟨g, 0, rfl, fun k hk i u hu => ?_⟩⟩
    have hcs := World.ownsRow.cells h (g := g) (by rw [h0]; rfl) (k * 4 + i) u (itsC_at its bv lv _ k hk i u hu)
    have hadd : (⟨g, 0, none⟩ : Addr).add (k * 4 + i) = ⟨g, k * 4 + i, none⟩ := by unfold Addr.add; split <;> simp_all
    rw [hadd] at hcs
    rw [Nat.zero_add]
    exact hcs
/-- The cells of one item. -/
theorem Its.cells {w : World} {v : Value} {its : List It} {bv lv : Nat → Value} {A : Option Addr} {c : Nat} (h3 : 0 < its.length → ∃ b off, A = some ⟨b, off, none⟩ ∧ ∀ j, j < its.length → w.rangeAt b (off + j * 4) (itC (its.getD j default) (bv j) (lv j))) (j : Nat) (x : It) (hx : its[j]? = some x) :
    ∃ b off, A = some ⟨b, off, none⟩ ∧ ∀ W, Below w.heap.size w W → ∀ (i : Nat) u, (itC x (bv j) (lv j))[i]? = some u → W.cell? ⟨b, off + j * 4 + i, none⟩ = some u := by
  have hlt := (List.getElem?_eq_some_iff.1 hx).1
  obtain ⟨b, off, hA, hc⟩ := h3 (by omega)
  have hg : its.getD j default = x := by rw [List.getD_eq_getElem?_getD, hx]; rfl
  have h1 := hc j hlt
  rw [hg] at h1
  exact ⟨b, off, hA, fun W hW i u hu => (hW.cell (p := ⟨b, off + j * 4 + i, none⟩) (World.block_lt_of_cell? w _ (h1 i u hu))).trans (h1 i u hu)⟩

def ShortRet (its : List It) (e : Ending) : Prop := ∃ q : Bool, e = .returned (.bool q) ∧ (q = true → its.length ≤ 20)
set_option maxHeartbeats 1000000 in
theorem short_any (w : World) (v : Value) (its : List It) (h : Its w v its) :
    Calls Try.prog 10 #[v] w fun e w' => ShortRet its e ∧ w = w' := by
  obtain ⟨bv, lv, ⟨A, c, rfl, q1, q2, q3⟩, hI⟩ := h
  have HI := Lib.hid hI
  unfold maxLen at q2
  clear hI
  by_cases hs : (20 : Int) < (its.length : Int)
  · clear q3
    go_enter Try.func10, Try.ntmps10
    go_wp2
    go_ret
    exact ⟨⟨false, rfl, fun h => by cases h⟩, rfl⟩
  · have hn20 : its.length ≤ 20 := by omega
    go_enter Try.func10, Try.ntmps10
    go_wp2
    go_loopw [3] (fun i wr => ∃ j : Nat, j ≤ its.length ∧ i = .int .i64 (j : Int) ∧ wr = w) (fun i _ => its.length - (intOf i).toNat)
    case atStart => exact ⟨0, by omega, rfl, rfl⟩
    case round =>
      obtain ⟨j, hj, rfl, rfl⟩ := hrel
      by_cases hlt : j < its.length
      · have hlt2 : (j : Int) < (its.length : Int) := by omega
        have hw1 : IntKind.i64.wrap ((j : Int) + 1) = (j : Int) + 1 := IntWalk.i64_in _ (by omega)
        have hq0 : ¬ ((j : Int) < 0) := by omega
        obtain ⟨x, hx⟩ : ∃ x, its[j]? = some x := ⟨_, List.getElem?_eq_getElem hlt⟩
        obtain ⟨hb0, hk0, _⟩ := HI.out j x hx
        obtain ⟨b0, off, rfl, hc⟩ := Its.cells (v := .slice A its.length c) (c := c) q3 j x hx
        have c2 := hc wr (Below.refl _ _) 2 _ rfl
        have c3 := hc wr (Below.refl _ _) 3 _ rfl
        obtain ⟨BA, bc, hbv, _, _, _⟩ := hb0
        obtain ⟨LA, lc, hlv, _, _, _, _⟩ := hk0
        rw [hbv] at c2
        rw [hlv] at c3
        clear hc q3 hbv hlv hx
        by_cases h5 : (5000 : Int) < (x.b.length : Int)
        · go_wp2
          go_ret
          exact ⟨⟨false, rfl, fun h => by cases h⟩, rfl⟩
        · by_cases h6 : (120 : Int) < (x.l.length : Int)
          · go_wp2
            go_ret
            exact ⟨⟨false, rfl, fun h => by cases h⟩, rfl⟩
          · go_wp2
            refine ⟨⟨j + 1, by omega, by congr 1, trivial⟩, ?_⟩
            show its.length - ((j : Int) + 1).toNat < its.length - (j : Int).toNat
            omega
      · go_wp2
        go_ret
        exact ⟨⟨true, rfl, fun _ => hn20⟩, rfl⟩

theorem Try.infoItemR : (Try.prog.info? 61).map (fun i => (i.zero, i.size, i.bytes)) = some (some (.agg #[.int .i64 0, .int .u64 0, .slice none 0 0, .slice none 0 0]), 4, 64) := by kernel_rfl
set_option maxHeartbeats 2000000 in
theorem doc_any (w : World) (v : Value) (its : List It) (h : Its w v its) (hl : its.length ≤ 1000) :
    Calls Try.prog 13 #[v] w fun e w' => ∃ v', e = .returned v' ∧ Its w' v' its ∧ Below w.heap.size w w' := by
  obtain ⟨bv, lv, ⟨A, c, rfl, q1, q2, q3⟩, hI⟩ := h
  have HI := Lib.hid hI
  unfold maxLen at q2
  clear hI
  go_enter Try.func13, Try.ntmps13
  go_wp2
  go_loopw [3, 4] (fun v i wr => ∃ j : Nat, j ≤ its.length ∧ i = .int .i64 (j : Int) ∧ wr.ownsRow w.heap.size 61 4 v j (itsC its bv lv j) ∧ Below w.heap.size w wr) (fun _ i _ => its.length - (intOf i).toNat)
  case atStart => exact ⟨0, by omega, rfl, World.ownsRow_nil _ _ _ _, Below.refl _ _⟩
  case round =>
    obtain ⟨j, hj, rfl, hO, hB⟩ := hrel
    have HO := Lib.hid hO
    have HB := Lib.hid hB
    obtain ⟨VA, vn, vc, rfl⟩ : ∃ VA vn vc, u3 = .slice VA vn vc := by
      rcases hO.2 with ⟨rfl, _⟩ | ⟨g, cap, cur, rfl, _⟩ <;> exact ⟨_, _, _, rfl⟩
    clear hO hB
    by_cases hlt : j < its.length
    · have hlt2 : (j : Int) < (its.length : Int) := by omega
      have hw1 : IntKind.i64.wrap ((j : Int) + 1) = (j : Int) + 1 := IntWalk.i64_in _ (by omega)
      have hq0 : ¬ ((j : Int) < 0) := by omega
      obtain ⟨x, hx⟩ : ∃ x, its[j]? = some x := ⟨_, List.getElem?_eq_getElem hlt⟩
      obtain ⟨hb0, hk0, _⟩ := HI.out j x hx
      have hgx : its.getD j default = x := by rw [List.getD_eq_getElem?_getD, hx]; rfl
      obtain ⟨b0, off, rfl, hc⟩ := Its.cells (v := .slice A its.length c) (c := c) q3 j x hx
      have HC := Lib.hid hc
      have H1C := Lib.hid (itC_one w x (bv j) (lv j) hb0 hk0)
      obtain ⟨BV, hBV⟩ : ∃ BV, BV = bv j := ⟨_, rfl⟩
      obtain ⟨LV, hLV⟩ : ∃ LV, LV = lv j := ⟨_, rfl⟩
      have HFIN : Hid (itsC its bv lv j ++ itC x BV LV = itsC its bv lv (j + 1)) := by show _ = _; rw [itsC, hgx, hBV, hLV]
      rw [← hBV] at HC H1C
      rw [← hLV] at HC H1C
      have HBB : Hid (Bs w BV x.b) := hBV ▸ hb0
      have HLL : Hid (Kl w LV x.l) := hLV ▸ hk0
      have HIC : Hid (itC x BV LV = [.int .i64 x.k, .int .u64 (x.n : Int), BV, LV]) := rfl
      clear hc q3 hx hgx hb0 hk0 hBV hLV
      obtain ⟨BA, bc, rfl, _, _, _⟩ := HBB.out
      obtain ⟨LA, lc, rfl, _, _, _, _⟩ := HLL.out
      go_wp2
      refine plain_region (S := fun W => Below w.heap.size w W) (fin := fun _ => false) (by kernel_rfl) ?_
      have hS : Below w.heap.size w wr.drew := HB.out.drew
      change walkS _ _ _ _ _ _ 25 _ _ _
      refine walkS_take (i := 0) (oi := ⟨some 11, _, _, _, _, _⟩) (v := .slice VA vn vc) rfl (by kernel_rfl) (by kernel_rfl) (fun _ _ _ h => h) _ _ _ _ (by kernel_rfl) (by kernel_rfl) (Or.inl ⟨by rfl, fun w' hS' => (by clear hS hS'; go_simp)⟩) hS ?_
      try simp only [Act.put, List.setIfInBounds_toArray, List.set_cons_zero, List.set_cons_succ]
      refine walkS_take (i := 1) (oi := ⟨some 12, _, _, _, _, _⟩) (v := .slice (some ⟨b0, off, none⟩) its.length c) rfl (by kernel_rfl) (by kernel_rfl) (fun _ _ _ h => h) _ _ _ _ (by kernel_rfl) (by kernel_rfl) (Or.inl ⟨by rfl, fun w' hS' => (by clear hS hS'; go_simp)⟩) hS ?_
      try simp only [Act.put, List.setIfInBounds_toArray, List.set_cons_zero, List.set_cons_succ]
      refine walkS_take (i := 2) (oi := ⟨some 13, _, _, _, _, _⟩) (v := .int .i64 (j : Int)) rfl (by kernel_rfl) (by kernel_rfl) (fun _ _ _ h => h) _ _ _ _ (by kernel_rfl) (by kernel_rfl) (Or.inl ⟨by rfl, fun w' hS' => (by clear hS hS'; go_simp)⟩) hS ?_
      try simp only [Act.put, List.setIfInBounds_toArray, List.set_cons_zero, List.set_cons_succ]
      refine walkS_take (i := 3) (oi := ⟨some 14, _, _, _, _, _⟩) (v := .pointer (some ⟨b0, off + j * 4, none⟩)) rfl (by kernel_rfl) (by kernel_rfl) (fun _ _ _ h => h) _ _ _ _ (by kernel_rfl) (by kernel_rfl) (Or.inl ⟨by rfl, fun w' hS' => (by clear hS hS'; go_simp)⟩) hS ?_
      try simp only [Act.put, List.setIfInBounds_toArray, List.set_cons_zero, List.set_cons_succ]
      refine walkS_take (i := 4) (oi := ⟨some 15, _, _, _, _, _⟩) (v := .pointer (some ⟨b0, off + j * 4, none⟩)) rfl (by kernel_rfl) (by kernel_rfl) (fun _ _ _ h => h) _ _ _ _ (by kernel_rfl) (by kernel_rfl) (Or.inl ⟨by rfl, fun w' hS' => (by clear hS hS'; go_simp)⟩) hS ?_
      try simp only [Act.put, List.setIfInBounds_toArray, List.set_cons_zero, List.set_cons_succ]
      refine walkS_take (i := 5) (oi := ⟨some 16, _, _, _, _, _⟩) (v := .int .i64 x.k) rfl (by kernel_rfl) (by kernel_rfl) (fun _ _ _ h => h) _ _ _ _ (by kernel_rfl) (by kernel_rfl) (Or.inl ⟨by rfl, fun w' hS' => (by have c0 := HC.out w' hS' 0 _ rfl; rw [Nat.add_zero] at c0; clear hS hS'; go_simp)⟩) hS ?_
      try simp only [Act.put, List.setIfInBounds_toArray, List.set_cons_zero, List.set_cons_succ]
      refine walkS_take (i := 6) (oi := ⟨some 17, _, _, _, _, _⟩) (v := .slice (some ⟨b0, off, none⟩) its.length c) rfl (by kernel_rfl) (by kernel_rfl) (fun _ _ _ h => h) _ _ _ _ (by kernel_rfl) (by kernel_rfl) (Or.inl ⟨by rfl, fun w' hS' => (by clear hS hS'; go_simp)⟩) hS ?_
      try simp only [Act.put, List.setIfInBounds_toArray, List.set_cons_zero, List.set_cons_succ]
      refine walkS_take (i := 7) (oi := ⟨some 18, _, _, _, _, _⟩) (v := .int .i64 (j : Int)) rfl (by kernel_rfl) (by kernel_rfl) (fun _ _ _ h => h) _ _ _ _ (by kernel_rfl) (by kernel_rfl) (Or.inl ⟨by rfl, fun w' hS' => (by clear hS hS'; go_simp)⟩) hS ?_
      try simp only [Act.put, List.setIfInBounds_toArray, List.set_cons_zero, List.set_cons_succ]
      refine walkS_take (i := 8) (oi := ⟨some 19, _, _, _, _, _⟩) (v := .pointer (some ⟨b0, off + j * 4, none⟩)) rfl (by kernel_rfl) (by kernel_rfl) (fun _ _ _ h => h) _ _ _ _ (by kernel_rfl) (by kernel_rfl) (Or.inl ⟨by rfl, fun w' hS' => (by clear hS hS'; go_simp)⟩) hS ?_
      try simp only [Act.put, List.setIfInBounds_toArray, List.set_cons_zero, List.set_cons_succ]
      refine walkS_take (i := 9) (oi := ⟨some 20, _, _, _, _, _⟩) (v := .pointer (some ⟨b0, off + j * 4 + 1, none⟩)) rfl (by kernel_rfl) (by kernel_rfl) (fun _ _ _ h => h) _ _ _ _ (by kernel_rfl) (by kernel_rfl) (Or.inl ⟨by rfl, fun w' hS' => (by clear hS hS'; go_simp)⟩) hS ?_
      try simp only [Act.put, List.setIfInBounds_toArray, List.set_cons_zero, List.set_cons_succ]
      refine walkS_take (i := 10) (oi := ⟨some 21, _, _, _, _, _⟩) (v := .int .u64 (x.n : Int)) rfl (by kernel_rfl) (by kernel_rfl) (fun _ _ _ h => h) _ _ _ _ (by kernel_rfl) (by kernel_rfl) (Or.inl ⟨by rfl, fun w' hS' => (by have c0 := HC.out w' hS' 1 _ rfl; clear hS hS'; go_simp)⟩) hS ?_
      try simp only [Act.put, List.setIfInBounds_toArray, List.set_cons_zero, List.set_cons_succ]
      refine walkS_take (i := 11) (oi := ⟨some 22, _, _, _, _, _⟩) (v := .slice (some ⟨b0, off, none⟩) its.length c) rfl (by kernel_rfl) (by kernel_rfl) (fun _ _ _ h => h) _ _ _ _ (by kernel_rfl) (by kernel_rfl) (Or.inl ⟨by rfl, fun w' hS' => (by clear hS hS'; go_simp)⟩) hS ?_
      try simp only [Act.put, List.setIfInBounds_toArray, List.set_cons_zero, List.set_cons_succ]
      refine walkS_take (i := 12) (oi := ⟨some 23, _, _, _, _, _⟩) (v := .int .i64 (j : Int)) rfl (by kernel_rfl) (by kernel_rfl) (fun _ _ _ h => h) _ _ _ _ (by kernel_rfl) (by kernel_rfl) (Or.inl ⟨by rfl, fun w' hS' => (by clear hS hS'; go_simp)⟩) hS ?_
      try simp only [Act.put, List.setIfInBounds_toArray, List.set_cons_zero, List.set_cons_succ]
      refine walkS_take (i := 13) (oi := ⟨some 24, _, _, _, _, _⟩) (v := .pointer (some ⟨b0, off + j * 4, none⟩)) rfl (by kernel_rfl) (by kernel_rfl) (fun _ _ _ h => h) _ _ _ _ (by kernel_rfl) (by kernel_rfl) (Or.inl ⟨by rfl, fun w' hS' => (by clear hS hS'; go_simp)⟩) hS ?_
      try simp only [Act.put, List.setIfInBounds_toArray, List.set_cons_zero, List.set_cons_succ]
      refine walkS_take (i := 14) (oi := ⟨some 25, _, _, _, _, _⟩) (v := .pointer (some ⟨b0, off + j * 4 + 2, none⟩)) rfl (by kernel_rfl) (by kernel_rfl) (fun _ _ _ h => h) _ _ _ _ (by kernel_rfl) (by kernel_rfl) (Or.inl ⟨by rfl, fun w' hS' => (by clear hS hS'; go_simp)⟩) hS ?_
      try simp only [Act.put, List.setIfInBounds_toArray, List.set_cons_zero, List.set_cons_succ]
      refine walkS_take (i := 15) (oi := ⟨some 26, _, _, _, _, _⟩) (v := (.slice BA x.b.length bc)) rfl (by kernel_rfl) (by kernel_rfl) (fun _ _ _ h => h) _ _ _ _ (by kernel_rfl) (by kernel_rfl) (Or.inl ⟨by rfl, fun w' hS' => (by have c0 := HC.out w' hS' 2 _ rfl; clear hS hS'; go_simp)⟩) hS ?_
      try simp only [Act.put, List.setIfInBounds_toArray, List.set_cons_zero, List.set_cons_succ]
      refine walkS_take (i := 16) (oi := ⟨some 27, _, _, _, _, _⟩) (v := .slice (some ⟨b0, off, none⟩) its.length c) rfl (by kernel_rfl) (by kernel_rfl) (fun _ _ _ h => h) _ _ _ _ (by kernel_rfl) (by kernel_rfl) (Or.inl ⟨by rfl, fun w' hS' => (by clear hS hS'; go_simp)⟩) hS ?_
      try simp only [Act.put, List.setIfInBounds_toArray, List.set_cons_zero, List.set_cons_succ]
      refine walkS_take (i := 17) (oi := ⟨some 28, _, _, _, _, _⟩) (v := .int .i64 (j : Int)) rfl (by kernel_rfl) (by kernel_rfl) (fun _ _ _ h => h) _ _ _ _ (by kernel_rfl) (by kernel_rfl) (Or.inl ⟨by rfl, fun w' hS' => (by clear hS hS'; go_simp)⟩) hS ?_
      try simp only [Act.put, List.setIfInBounds_toArray, List.set_cons_zero, List.set_cons_succ]
      refine walkS_take (i := 18) (oi := ⟨some 29, _, _, _, _, _⟩) (v := .pointer (some ⟨b0, off + j * 4, none⟩)) rfl (by kernel_rfl) (by kernel_rfl) (fun _ _ _ h => h) _ _ _ _ (by kernel_rfl) (by kernel_rfl) (Or.inl ⟨by rfl, fun w' hS' => (by clear hS hS'; go_simp)⟩) hS ?_
      try simp only [Act.put, List.setIfInBounds_toArray, List.set_cons_zero, List.set_cons_succ]
      refine walkS_take (i := 19) (oi := ⟨some 30, _, _, _, _, _⟩) (v := .pointer (some ⟨b0, off + j * 4 + 3, none⟩)) rfl (by kernel_rfl) (by kernel_rfl) (fun _ _ _ h => h) _ _ _ _ (by kernel_rfl) (by kernel_rfl) (Or.inl ⟨by rfl, fun w' hS' => (by clear hS hS'; go_simp)⟩) hS ?_
      try simp only [Act.put, List.setIfInBounds_toArray, List.set_cons_zero, List.set_cons_succ]
      refine walkS_take (i := 20) (oi := ⟨some 31, _, _, _, _, _⟩) (v := (.slice LA x.l.length lc)) rfl (by kernel_rfl) (by kernel_rfl) (fun _ _ _ h => h) _ _ _ _ (by kernel_rfl) (by kernel_rfl) (Or.inl ⟨by rfl, fun w' hS' => (by have c0 := HC.out w' hS' 3 _ rfl; clear hS hS'; go_simp)⟩) hS ?_
      try simp only [Act.put, List.setIfInBounds_toArray, List.set_cons_zero, List.set_cons_succ]
      refine walkS_take (i := 21) (oi := ⟨some 32, _, _, _, _, _⟩) (v := .agg #[.int .i64 x.k, .int .u64 (x.n : Int), (.slice BA x.b.length bc), (.slice LA x.l.length lc)]) rfl (by kernel_rfl) (by kernel_rfl) (fun _ _ _ h => h) _ _ _ _ (by kernel_rfl) (by kernel_rfl) (Or.inl ⟨by rfl, fun w' hS' => (by clear hS hS'; go_simp)⟩) hS ?_
      try simp only [Act.put, List.setIfInBounds_toArray, List.set_cons_zero, List.set_cons_succ]
      clear hS
      refine walkS_only (i := 22) (o := ⟨some 33, _, _, _, _, _⟩) (by kernel_rfl) rfl rfl fun KK hKK => ?_
      go_simp
      obtain ⟨w11, hw11⟩ : ∃ w11, w11 = (wr.alloc (.cells (itC x (.slice BA x.b.length bc) (.slice LA x.l.length lc)).toArray 61)).drew := ⟨_, rfl⟩
      have B11 : Hid (Below wr.heap.size wr w11) := by show Below _ _ _; rw [hw11]; exact ((Below.refl _ wr).alloc (Nat.le_refl _) _).drew
      have R11 : Hid (RowAt w11 wr.heap.size 61 (itC x (.slice BA x.b.length bc) (.slice LA x.l.length lc)).toArray) := by show RowAt _ _ _ _; rw [hw11]; exact (RowAt.new wr _ _).drew
      have hw12 : (wr.alloc (.cells #[.int .i64 x.k, .int .u64 (x.n : Int), (.slice BA x.b.length bc), (.slice LA x.l.length lc)] 61)).drew = w11 := by rw [hw11, HIC.out]
      rw [hw12]
      refine hKK _ _ (.inr (below_size HB.out B11.out)) ?_
      clear hKK KK hw11 hw12
      try simp only [Act.put, List.setIfInBounds_toArray, List.set_cons_zero, List.set_cons_succ]
      refine walkS_only (i := 23) (o := ⟨some 34, _, _, _, _, _⟩) (by kernel_rfl) rfl rfl fun KK hKK => ?_
      have O11 := Lib.hid (owned_far (row := none) HO.out (grown_of_below B11.out) (fun r e => by cases e))
      obtain ⟨i0, hi0, hz0, hz1, hz2⟩ := info_parts Try.infoItemR
      have h410 : w.heap.size ≤ w11.heap.size := Nat.le_trans HB.out.size B11.out.size
      refine wp_append_own w11 (.tmp 11) (.tmp 33) 30 rfl w.heap.size 61 i0 (.agg #[.int .i64 0, .int .u64 0, .slice none 0 0, .slice none 0 0]) 4 64 Try.underlying30 hi0 hz0 hz1 hz2 rfl (by decide) (.slice VA vn vc) j _ rfl O11.out ⟨wr.heap.size, 0, none⟩ 1 1 (itC x (.slice BA x.b.length bc) (.slice LA x.l.length lc)) rfl rfl (fun q y hq => ?_) H1C.out (by unfold maxLen; omega) (by omega) h410 fun v2 w12 ho2 hg2 _ => ?_
      · have hadd : (⟨wr.heap.size, 0, none⟩ : Addr).add q = ⟨wr.heap.size, q, none⟩ := by unfold Addr.add; split <;> simp_all
        rw [hadd, R11.out.cell q]
        simpa using hq
      clear hi0 hz0 hz1 hz2
      have B12 : Hid (Below w.heap.size w w12) := (below_size HB.out B11.out).grown hg2 h410 (fun k e => (World.ownsRow.lt O11.out k e).1)
      rw [HFIN.out] at ho2
      have HO2 := Lib.hid ho2
      obtain ⟨VA2, vn2, vc2, rfl⟩ : ∃ VA vn vc, v2 = .slice VA vn vc := by
        rcases ho2.2 with ⟨rfl, _⟩ | ⟨g, cap, cur, rfl, _⟩ <;> exact ⟨_, _, _, rfl⟩
      refine hKK _ _ (.inr B12.out) ?_
      clear hKK KK hg2 ho2
      try simp only [Act.put, List.setIfInBounds_toArray, List.set_cons_zero, List.set_cons_succ]
      refine walkS_only (i := 24) (o := ⟨some 3, _, _, _, _, _⟩) (by kernel_rfl) rfl rfl fun KK hKK => ?_
      go_simp
      refine hKK _ _ (.inr B12.out) (walkS_done (by kernel_rfl) ?_ _)
      clear hKK KK
      go_wp2_with fail
      go_roundw
      case rel => exact ⟨j + 1, by omega, by go_num, HO2.out, B12.out⟩
      case measure => simp [intOf]; omega
    · have hj2 : j = its.length := by omega
      subst hj2
      go_wp2
      go_ret
      exact ⟨_, rfl, Its.of_own HO.out (fun k x hx => ⟨(HI.out k x hx).1.below HB.out, (HI.out k x hx).2.1.below HB.out, (HI.out k x hx).2.2⟩), HB.out⟩

theorem inv_item (s : St) (x : It) (h : s.Inv) : (s.item x).Inv := by
  unfold St.item
  split
  · unfold St.wByt; split
    · exact inv_fail _ _ h
    · exact inv_put _ _ (inv_put _ _ h)
  · split
    · unfold St.wKey; split
      · exact inv_fail _ _ h
      · exact inv_put _ _ (inv_put _ _ h)
    · unfold St.wNum; split
      · exact inv_put _ _ h
      · exact inv_fail _ _ h
theorem encS_inv (its : List It) : (encS its).Inv := by
  have key : ∀ (ps : List It) (s : St), s.Inv → (ps.foldl St.item s).Inv := by
    intro ps
    induction ps with
    | nil => intro s h; exact h
    | cons x r ih => intro s h; exact ih _ (inv_item s x h)
  exact key its _ (fun h => absurd rfl h)

set_option maxHeartbeats 4000000 in
theorem refEncode_any (w : World) (v : Value) (its : List It) (h : Its w v its) (hl : its.length ≤ 1000) :
    Calls Try.prog 12 #[v] w fun e w' => Below w.heap.size w w' ∧
      ((its.any (fun x => badK x.k) = true ∧ e = .returned (.tuple #[.slice none 0 0, .int .i64 51])) ∨ (its.any (fun x => badK x.k) = false ∧ ∃ u, e = .returned (.tuple #[u, .int .i64 (encS its).e]) ∧ Bs w' u (encS its).l)) := by
  obtain ⟨bv, lv, ⟨A, c, rfl, q1, q2, q3⟩, hI⟩ := h
  have HI := Lib.hid hI
  have HQ3 := Lib.hid q3
  have H32 : Hid (∀ x ∈ its, ∀ l ∈ x.l, l.length = 32) := fun x hx l hl => by
    obtain ⟨j, hj⟩ := List.mem_iff_getElem?.1 hx
    obtain ⟨_, _, _, _, _, h4, _⟩ := (hI j x hj).2.1
    exact h4 l hl
  have HK := Lib.hid (fun w z => refKind_any w z)
  unfold maxLen at q2
  clear hI q3
  go_enter Try.func12, Try.ntmps12
  go_wp2_with fail
  go_loopw [4] (fun i wr => ∃ j : Nat, j ≤ its.length ∧ i = .int .i64 (j : Int) ∧ wr = w ∧ ∀ (k : Nat) x, k < j → its[k]? = some x → badK x.k = false) (fun i _ => its.length - (intOf i).toNat)
  case atStart => exact ⟨0, by omega, rfl, rfl, fun k x hk => by omega⟩
  case round =>
    obtain ⟨j, hj, rfl, hqq, hno⟩ := hrel
    have hqq' := hqq.symm
    subst hqq'
    clear hqq
    have HNO := Lib.hid hno
    clear hno
    by_cases hlt : j < its.length
    · have hlt2 : (j : Int) < (its.length : Int) := by omega
      have hw1 : IntKind.i64.wrap ((j : Int) + 1) = (j : Int) + 1 := IntWalk.i64_in _ (by omega)
      have hq0 : ¬ ((j : Int) < 0) := by omega
      obtain ⟨x, hx⟩ : ∃ x, its[j]? = some x := ⟨_, List.getElem?_eq_getElem hlt⟩
      obtain ⟨b0, off, rfl, hc⟩ := Its.cells (v := .slice A its.length c) (c := c) HQ3.out j x hx
      have c0 := hc w (Below.refl _ _) 0 _ rfl
      rw [Nat.add_zero] at c0
      have HX := Lib.hid hx
      clear hc hx
      go_wp2_with fail
      refine (HK.out w x.k).mono ?_
      intro e w1 hh
      obtain ⟨he, hw⟩ := hh
      subst he hw
      cases hbad : badK x.k with
      | true =>
        go_wp2_with fail
        go_ret2
        exact ⟨Below.refl _ _, .inl ⟨List.any_eq_true.2 ⟨x, List.mem_of_getElem? HX.out, hbad⟩, rfl⟩⟩
      | false =>
        go_wp2_with fail
        go_roundw
        case rel => exact ⟨j + 1, by omega, by go_num, trivial, fun k y hk hy => by
          by_cases hkj : k = j
          · rw [hkj, HX.out] at hy
            injection hy with hy
            rw [← hy]; exact hbad
          · exact HNO.out k y (by omega) hy⟩
        case measure => simp [intOf]; omega
    · have hj2 : j = its.length := by omega
      subst hj2
      have HNB : Hid (∀ (k : Nat) x, its[k]? = some x → badK x.k = false) := fun k x hx => HNO.out k x (List.getElem?_eq_some_iff.1 hx).1 hx
      have HANY : Hid (its.any (fun x => badK x.k) = false) := by
        show _ = _
        rw [List.any_eq_false]
        intro x hx
        obtain ⟨k, hk⟩ := List.mem_iff_getElem?.1 hx
        rw [HNB.out k x hk]
        simp
      clear HNO
      obtain ⟨w2, hw2⟩ : ∃ w2, w2 = w.alloc (.cells #[.slice none 0 0, .int .i64 0] 69) := ⟨_, rfl⟩
      obtain ⟨r, hr⟩ : ∃ r, r = w.heap.size := ⟨_, rfl⟩
      have B2 : Hid (Below w.heap.size w w2) := by show Below _ _ _; rw [hw2]; exact alloc_below _ _
      have R2 : Hid (RoAt w2 r (encS (its.take 0)) (fun _ => False)) := by
        refine ⟨.slice none 0 0, [], ?_, Bs.nil _, fun _ => rfl, U8At.nil _ _ _, fun k hk => by cases hk⟩
        rw [hw2, hr]
        exact RowAt.new _ _ _
      have hrl : w.heap.size ≤ r := by omega
      have HW2 := Lib.hid hw2
      have HR2 := Lib.hid hr
      clear hw2 hr
      go_wp2_with fail
      rw [← HW2.out, ← HR2.out]
      go_loopw [7] (fun i wr => ∃ j : Nat, j ≤ its.length ∧ i = .int .i64 (j : Int) ∧ RoAt wr r (encS (its.take j)) (fun _ => False) ∧ Below w.heap.size w wr) (fun i _ => its.length - (intOf i).toNat)
      case atStart => exact ⟨0, by omega, rfl, R2.out, B2.out⟩
      case round =>
        clear R2 B2 HW2 HR2
        obtain ⟨j, hj, rfl, hR, hB⟩ := hrel
        have HR := Lib.hid hR
        have HB := Lib.hid hB
        clear hR hB
        by_cases hlt : j < its.length
        · have hlt2 : (j : Int) < (its.length : Int) := by omega
          have hw1 : IntKind.i64.wrap ((j : Int) + 1) = (j : Int) + 1 := IntWalk.i64_in _ (by omega)
          have hq0 : ¬ ((j : Int) < 0) := by omega
          obtain ⟨x, hx⟩ : ∃ x, its[j]? = some x := ⟨_, List.getElem?_eq_getElem hlt⟩
          obtain ⟨hb0, hk0, hn0⟩ := HI.out j x hx
          have HST := Lib.hid (encS_take its j x hx)
          obtain ⟨b0, off, rfl, hc⟩ := Its.cells (v := .slice A its.length c) (c := c) HQ3.out j x hx
          have HC := Lib.hid hc
          have hsl : (encS (its.take j)).l.length ≤ 900000000 := by
            have h1 := encS_length (its.take j) fun x hx => H32.out x (List.mem_of_mem_take hx)
            rw [List.length_take_of_le (by omega)] at h1
            omega
          obtain ⟨s, hs'⟩ : ∃ s, s = encS (its.take j) := ⟨_, rfl⟩
          rw [← hs'] at HR HST hsl
          have HBb := Lib.hid (hb0.below HB.out)
          have HKk := Lib.hid (hk0.below HB.out)
          have c0 := hc wr HB.out 0 _ rfl
          have c2 := hc wr HB.out 2 _ rfl
          have c3 := hc wr HB.out 3 _ rfl
          rw [Nat.add_zero] at c0
          obtain ⟨BV, hBV⟩ : ∃ BV, BV = bv j := ⟨_, rfl⟩
          obtain ⟨LV, hLV⟩ : ∃ LV, LV = lv j := ⟨_, rfl⟩
          rw [← hBV] at HBb c2 HC
          rw [← hLV] at HKk c3 HC
          obtain ⟨BA, bc, hbv2, _, _, _⟩ := HBb.out
          obtain ⟨LA, lc, hlv2, _, _, _, _⟩ := HKk.out
          have HNN := Lib.hid hn0
          rw [hbv2] at c2 HBb
          rw [hlv2] at c3 HKk
          clear hc hx hb0 hk0 hs' hBV hLV hn0
          by_cases h9 : x.k = 9
          · have hd9 : decide (x.k = 9) = true := by simp [h9]
            have HIT : Hid (s.item x = s.wByt x.b) := by show _ = _; unfold St.item; rw [if_pos h9]
            rw [h9] at c0
            go_wp2_with fail
            refine (roBytes_any wr (fun _ => False) r s _ x.b HR.out HBb.out hsl (fun k hk => hk.elim)).mono ?_
            intro e w5 hh
            obtain ⟨he, h5, g5⟩ := hh
            subst he
            rw [← HIT.out, ← HST.out] at h5
            have R5 := Lib.hid h5
            have B5 : Hid (Below w.heap.size w w5) := HB.out.grown g5 HB.out.size (fun k e => by injection e with e; omega)
            clear h5 g5
            go_wp2_with fail
            go_roundw
            case rel => exact ⟨j + 1, by omega, by go_num, R5.out, B5.out⟩
            case measure => simp [intOf]; omega
          · have hd9 : decide (x.k = 9) = false := by simp [h9]
            by_cases h32 : x.k = 32
            · have HIT : Hid (s.item x = s.wKey x.l) := by show _ = _; unfold St.item; rw [if_neg h9, if_pos h32]
              rw [h32] at c0
              go_wp2_with fail
              refine (roKeys_any wr (fun _ => False) r s _ x.l HR.out HKk.out hsl (fun k hk => hk.elim)).mono ?_
              intro e w5 hh
              obtain ⟨he, h5, g5⟩ := hh
              subst he
              rw [← HIT.out, ← HST.out] at h5
              have R5 := Lib.hid h5
              have B5 : Hid (Below w.heap.size w w5) := HB.out.grown g5 HB.out.size (fun k e => by injection e with e; omega)
              clear h5 g5
              go_wp2_with fail
              go_roundw
              case rel => exact ⟨j + 1, by omega, by go_num, R5.out, B5.out⟩
              case measure => simp [intOf]; omega
            · have hd32 : decide (x.k = 32) = false := by simp [h32]
              have HIT : Hid (s.item x = s.wNum x.n x.k) := by show _ = _; unfold St.item; rw [if_neg h9, if_neg h32]
              go_wp2_with fail
              refine plain_region (S := fun W => Below w.heap.size w W) (fin := fun _ => false) (by kernel_rfl) ?_
              have hS : Below w.heap.size w wr.drew := HB.out.drew
              change walkS _ _ _ _ _ _ 12 _ _ _
              refine walkS_take (i := 0) (oi := ⟨some 37, _, _, _, _, _⟩) (v := .pointer (some ⟨r, 0, none⟩)) rfl (by kernel_rfl) (by kernel_rfl) (fun _ _ _ h => h) _ _ _ _ (by kernel_rfl) (by kernel_rfl) (Or.inl ⟨by rfl, fun w' hS' => (by clear hS hS'; go_simp)⟩) hS ?_
              try simp only [Act.put, List.setIfInBounds_toArray, List.set_cons_zero, List.set_cons_succ]
              refine walkS_take (i := 1) (oi := ⟨some 38, _, _, _, _, _⟩) (v := .slice (some ⟨b0, off, none⟩) its.length c) rfl (by kernel_rfl) (by kernel_rfl) (fun _ _ _ h => h) _ _ _ _ (by kernel_rfl) (by kernel_rfl) (Or.inl ⟨by rfl, fun w' hS' => (by clear hS hS'; go_simp)⟩) hS ?_
              try simp only [Act.put, List.setIfInBounds_toArray, List.set_cons_zero, List.set_cons_succ]
              refine walkS_take (i := 2) (oi := ⟨some 39, _, _, _, _, _⟩) (v := .int .i64 (j : Int)) rfl (by kernel_rfl) (by kernel_rfl) (fun _ _ _ h => h) _ _ _ _ (by kernel_rfl) (by kernel_rfl) (Or.inl ⟨by rfl, fun w' hS' => (by clear hS hS'; go_simp)⟩) hS ?_
              try simp only [Act.put, List.setIfInBounds_toArray, List.set_cons_zero, List.set_cons_succ]
              refine walkS_take (i := 3) (oi := ⟨some 40, _, _, _, _, _⟩) (v := .pointer (some ⟨b0, off + j * 4, none⟩)) rfl (by kernel_rfl) (by kernel_rfl) (fun _ _ _ h => h) _ _ _ _ (by kernel_rfl) (by kernel_rfl) (Or.inl ⟨by rfl, fun w' hS' => (by clear hS hS'; go_simp)⟩) hS ?_
              try simp only [Act.put, List.setIfInBounds_toArray, List.set_cons_zero, List.set_cons_succ]
              refine walkS_take (i := 4) (oi := ⟨some 41, _, _, _, _, _⟩) (v := .pointer (some ⟨b0, off + j * 4 + 1, none⟩)) rfl (by kernel_rfl) (by kernel_rfl) (fun _ _ _ h => h) _ _ _ _ (by kernel_rfl) (by kernel_rfl) (Or.inl ⟨by rfl, fun w' hS' => (by clear hS hS'; go_simp)⟩) hS ?_
              try simp only [Act.put, List.setIfInBounds_toArray, List.set_cons_zero, List.set_cons_succ]
              refine walkS_take (i := 5) (oi := ⟨some 42, _, _, _, _, _⟩) (v := .int .u64 (x.n : Int)) rfl (by kernel_rfl) (by kernel_rfl) (fun _ _ _ h => h) _ _ _ _ (by kernel_rfl) (by kernel_rfl) (Or.inl ⟨by rfl, fun w' hS' => (by have c1 := HC.out w' hS' 1 _ rfl; clear hS hS'; go_simp)⟩) hS ?_
              try simp only [Act.put, List.setIfInBounds_toArray, List.set_cons_zero, List.set_cons_succ]
              refine walkS_take (i := 6) (oi := ⟨some 43, _, _, _, _, _⟩) (v := .slice (some ⟨b0, off, none⟩) its.length c) rfl (by kernel_rfl) (by kernel_rfl) (fun _ _ _ h => h) _ _ _ _ (by kernel_rfl) (by kernel_rfl) (Or.inl ⟨by rfl, fun w' hS' => (by clear hS hS'; go_simp)⟩) hS ?_
              try simp only [Act.put, List.setIfInBounds_toArray, List.set_cons_zero, List.set_cons_succ]
              refine walkS_take (i := 7) (oi := ⟨some 44, _, _, _, _, _⟩) (v := .int .i64 (j : Int)) rfl (by kernel_rfl) (by kernel_rfl) (fun _ _ _ h => h) _ _ _ _ (by kernel_rfl) (by kernel_rfl) (Or.inl ⟨by rfl, fun w' hS' => (by clear hS hS'; go_simp)⟩) hS ?_
              try simp only [Act.put, List.setIfInBounds_toArray, List.set_cons_zero, List.set_cons_succ]
              refine walkS_take (i := 8) (oi := ⟨some 45, _, _, _, _, _⟩) (v := .pointer (some ⟨b0, off + j * 4, none⟩)) rfl (by kernel_rfl) (by kernel_rfl) (fun _ _ _ h => h) _ _ _ _ (by kernel_rfl) (by kernel_rfl) (Or.inl ⟨by rfl, fun w' hS' => (by clear hS hS'; go_simp)⟩) hS ?_
              try simp only [Act.put, List.setIfInBounds_toArray, List.set_cons_zero, List.set_cons_succ]
              refine walkS_take (i := 9) (oi := ⟨some 46, _, _, _, _, _⟩) (v := .pointer (some ⟨b0, off + j * 4, none⟩)) rfl (by kernel_rfl) (by kernel_rfl) (fun _ _ _ h => h) _ _ _ _ (by kernel_rfl) (by kernel_rfl) (Or.inl ⟨by rfl, fun w' hS' => (by clear hS hS'; go_simp)⟩) hS ?_
              try simp only [Act.put, List.setIfInBounds_toArray, List.set_cons_zero, List.set_cons_succ]
              refine walkS_take (i := 10) (oi := ⟨some 47, _, _, _, _, _⟩) (v := .int .i64 x.k) rfl (by kernel_rfl) (by kernel_rfl) (fun _ _ _ h => h) _ _ _ _ (by kernel_rfl) (by kernel_rfl) (Or.inl ⟨by rfl, fun w' hS' => (by have c1 := HC.out w' hS' 0 _ rfl; rw [Nat.add_zero] at c1; clear hS hS'; go_simp)⟩) hS ?_
              try simp only [Act.put, List.setIfInBounds_toArray, List.set_cons_zero, List.set_cons_succ]
              clear hS
              refine walkS_only (i := 11) (o := ⟨some 48, _, _, _, _, _⟩) (by kernel_rfl) rfl rfl fun KK hKK => ?_
              go_simp
              refine (roNumber_any wr.drew (fun _ => False) r s x.n x.k HNN.out HR.out hsl (fun k hk => hk.elim)).mono ?_
              intro e w5 hh
              obtain ⟨he, h5, g5⟩ := hh
              subst he
              rw [← HIT.out, ← HST.out] at h5
              have R5 := Lib.hid h5
              have B5 : Hid (Below w.heap.size w w5) := HB.out.drew.grown g5 HB.out.size (fun k e => by injection e with e; omega)
              refine hKK _ _ (.inr B5.out) (walkS_done (by kernel_rfl) ?_ _)
              clear hKK KK h5 g5
              go_wp2_with fail
              go_roundw
              case rel => exact ⟨j + 1, by omega, by go_num, R5.out, B5.out⟩
              case measure => simp [intOf]; omega
        · have hj2 : j = its.length := by omega
          subst hj2
          rw [List.take_length] at HR
          have HOI := Lib.hid (out_inv (encS its) (encS_inv its))
          have HD := Lib.hid (roDone_any wr (fun _ => False) r (encS its) HR.out)
          rw [HOI.out] at HD
          go_wp2_with fail
          refine HD.out.mono ?_
          intro e w9 hh
          obtain ⟨u, he, hu, b9⟩ := hh
          subst he
          have HU := Lib.hid hu
          have B9 := Lib.hid (below_size HB.out b9)
          obtain ⟨UA, uc, rfl, _, _, _⟩ := hu
          clear b9
          go_wp2_with fail
          go_ret2
          exact ⟨B9.out, .inr ⟨HANY.out, _, rfl, HU.out⟩⟩
end Go.Proofs.Ytjhhpakaemnemaa
end
section
namespace Go.Proofs.Ytjhhpakaemnemaa
open Go.RowKit
set_option linter.unusedVariables false
set_option maxRecDepth 20000

/-- Encode, the program's and the document's: one answer. -/
def EncTwo (bad : Bool) (E : Int) (L : List UInt8) (e : Ending) (w' : World) : Prop := ∃ u, e = .returned (.tuple #[u, .int .i64 E]) ∧ Bs w' u L
theorem encode_val (w : World) (v : Value) (its : List It) (h : Its w v its) (hl : its.length ≤ 1000) :
    Calls Try.prog 11 #[v] w fun e w' => Below w.heap.size w w' ∧ ∃ u, e = .returned (.tuple #[u, .int .i64 (if its.any (fun x => badK x.k) = true then 51 else (encS its).e)]) ∧ Bs w' u (if its.any (fun x => badK x.k) = true then [] else (encS its).l) :=
  (encode_any w v its h hl).mono fun e w' ⟨hb, hr⟩ => ⟨hb, by
    rcases hr with ⟨h1, he⟩ | ⟨h1, u, he, ho⟩
    · rw [if_pos h1, if_pos h1]; exact ⟨_, he, Bs.nil _⟩
    · rw [if_neg (by rw [h1]; simp), if_neg (by rw [h1]; simp)]; exact ⟨u, he, ho.bs⟩⟩
theorem refEncode_val (w : World) (v : Value) (its : List It) (h : Its w v its) (hl : its.length ≤ 1000) :
    Calls Try.prog 12 #[v] w fun e w' => Below w.heap.size w w' ∧ ∃ u, e = .returned (.tuple #[u, .int .i64 (if its.any (fun x => badK x.k) = true then 51 else (encS its).e)]) ∧ Bs w' u (if its.any (fun x => badK x.k) = true then [] else (encS its).l) :=
  (refEncode_any w v its h hl).mono fun e w' ⟨hb, hr⟩ => ⟨hb, by
    rcases hr with ⟨h1, he⟩ | ⟨h1, u, he, ho⟩
    · rw [if_pos h1, if_pos h1]; exact ⟨_, he, Bs.nil _⟩
    · rw [if_neg (by rw [h1]; simp), if_neg (by rw [h1]; simp)]; exact ⟨u, he, ho⟩⟩

set_option maxHeartbeats 4000000 in
theorem codecEncodes_walk (w : World) (v : Value) (its : List It) (h : Its w v its) :
    Calls Try.prog 3 #[v] w (RetV w (.bool true)) := by
  have HH := Lib.hid h
  have HA := Lib.hid (fun w => awake_true w)
  have HS := Lib.hid (fun w v h => short_any w v its h)
  obtain ⟨E, hE⟩ : ∃ E : Int, E = if its.any (fun x => badK x.k) = true then 51 else (encS its).e := ⟨_, rfl⟩
  obtain ⟨L, hL⟩ : ∃ L, L = if its.any (fun x => badK x.k) = true then [] else (encS its).l := ⟨_, rfl⟩
  have H1 : Hid (∀ w v, its.length ≤ 1000 → Its w v its → Calls Try.prog 11 #[v] w fun e w' => Below w.heap.size w w' ∧ ∃ u, e = .returned (.tuple #[u, .int .i64 E]) ∧ Bs w' u L) := fun w v hl h => by rw [hE, hL]; exact encode_val w v its h hl
  have H2 : Hid (∀ w v, its.length ≤ 1000 → Its w v its → Calls Try.prog 12 #[v] w fun e w' => Below w.heap.size w w' ∧ ∃ u, e = .returned (.tuple #[u, .int .i64 E]) ∧ Bs w' u L) := fun w v hl h => by rw [hE, hL]; exact refEncode_val w v its h hl
  have H3 := Lib.hid (fun w v h hl => doc_any w v its h hl)
  obtain ⟨bv, lv, ⟨A, c, rfl, _, _, _⟩, _⟩ := h
  clear hE hL
  go_enter Try.func3, Try.ntmps3
  go_wp2_with fail
  refine (HA.out _).mono ?_
  intro e w1 hh
  obtain ⟨he, b1⟩ := hh
  subst he
  have B1 := Lib.hid b1
  clear b1
  go_wp2_with fail
  refine (HS.out _ _ (HH.out.below B1.out)).mono ?_
  intro e w2 hh
  obtain ⟨⟨q, he, hq⟩, hw⟩ := hh
  subst he hw
  cases q with
  | false =>
    go_wp2
    go_ret
    exact ⟨rfl, B1.out⟩
  | true =>
    have HQ : Hid (its.length ≤ 1000) := by have := hq rfl; show _ ≤ _; omega
    clear hq
    go_wp2_with fail
    refine (H1.out _ _ HQ.out (HH.out.below B1.out)).mono ?_
    intro e w3 hh
    obtain ⟨b3, u3, he, hu3⟩ := hh
    subst he
    have B3 := Lib.hid (below_size B1.out b3)
    have U3 := Lib.hid hu3
    obtain ⟨A3, c3, rfl, _, _, _⟩ := hu3
    clear b3
    go_wp2_with fail
    refine (H3.out _ _ (HH.out.below B3.out) HQ.out).mono ?_
    intro e w4 hh
    obtain ⟨v4, he, hi4, b4⟩ := hh
    subst he
    have B4 := Lib.hid (below_size B3.out b4)
    have U4 := Lib.hid (U3.out.below b4)
    have I4 := Lib.hid hi4
    obtain ⟨_, _, ⟨A4, c4, rfl, _, _, _⟩, _⟩ := hi4
    clear b4 U3 B3
    go_wp2_with fail
    refine (H2.out _ _ HQ.out I4.out).mono ?_
    intro e w5 hh
    obtain ⟨b5, u5, he, hu5⟩ := hh
    subst he
    have B5 := Lib.hid (below_size B4.out b5)
    have U5 := Lib.hid hu5
    have U45 := Lib.hid (U4.out.below b5)
    obtain ⟨A5, c5, rfl, _, _, _⟩ := hu5
    clear b5 U4 B4
    have hdE : decide (E = E) = true := by simp
    go_wp2_with fail
    refine (same_yes w5 _ _ L U45.out U5.out).mono ?_
    intro e w6 hh
    obtain ⟨he, b6⟩ := hh
    subst he
    have B6 := Lib.hid (below_size B5.out b6)
    clear b6
    go_wp2_with fail
    go_ret
    exact ⟨rfl, B6.out⟩
end Go.Proofs.Ytjhhpakaemnemaa
end
section
namespace Go.Proofs.Ytjhhpakaemnemaa
open Go.RowKit

theorem u8_of_wf {n : Int} (h : (Lit.int .u8 n).wf = true) : ((UInt8.ofNat n.toNat).toNat : Int) = n := by
  have hb := bounds_u8 h
  rw [UInt8.toNat_ofNat_of_lt' (by simp [UInt8.size]; omega)]
  omega
theorem u64_of_wf {n : Int} (h : (Lit.int .u64 n).wf = true) : ∃ k : Nat, n = (k : Int) ∧ k < 18446744073709551616 := by
  have hb := bounds_u64 h
  exact ⟨n.toNat, by omega, by omega⟩
theorem i64_of_wf {n : Int} (h : (Lit.int .i64 n).wf = true) : -9223372036854775808 ≤ n ∧ n ≤ 9223372036854775807 := by
  have hb := bounds_i64 h
  omega

theorem bs_of_ints {w : World} {x : Addr} {len cap : Nat} {zs : List Int} (hl : len ≤ cap) (hm : cap ≤ maxLen) (hz : zs.length = cap)
    (hcell : ∀ i, i < zs.length → w.cell? (x.add i) = some (.int .u8 (zs.getD i 0))) (hwz : ∀ n ∈ zs, (Lit.int .u8 n).wf = true) :
    ∃ l, Bs w (.slice (some x) len cap) l := by
  have hlen : ((zs.take len).map fun n => UInt8.ofNat n.toNat).length = len := by simp; omega
  refine ⟨(zs.take len).map fun n => UInt8.ofNat n.toNat, some x, cap, by rw [hlen], by rw [hlen]; exact hl, hm, fun h0 => ?_⟩
  rw [hlen] at h0
  obtain ⟨b, off, spot⟩ := x
  have hc := hcell 0 (by omega)
  have hspot : spot = none := by simpa [Addr.add] using World.cell?_spot hc
  subst hspot
  refine ⟨b, off, rfl, fun j hj => ?_⟩
  rw [hlen] at hj
  have hadd : (⟨b, off, none⟩ : Addr).add j = ⟨b, off + j, none⟩ := by unfold Addr.add; split <;> simp_all
  have hcj := hcell j (by omega)
  rw [hadd] at hcj
  rw [hcj]
  have hj2 : j < zs.length := by omega
  simp only [List.getElem_map, List.getElem_take, List.getD_eq_getElem?_getD, List.getElem?_eq_getElem hj2, Option.getD_some]
  rw [u8_of_wf (hwz _ (List.getElem_mem hj2))]
end Go.Proofs.Ytjhhpakaemnemaa
end
section
namespace Go.Proofs.Ytjhhpakaemnemaa
open Go.RowKit
set_option linter.unusedVariables false

theorem open_cells {H : Type} {enc : TypeId × Value → H} {P : Program} {W : World} {base b0 : Nat} {sp : Nat → Bool} {held : Bool} {t e : TypeId} {n : Nat} {k : IntKind} {v : Value} {d : DataW H} {ps : List MemPlace}
    (ht : P.underlying t = some (.array n e)) (he : P.underlying e = some (.int k)) (hce : P.cellsOf e = 1) (hval : Value.okWide P W .any b0 t v) (h : DataW.Trod enc P W base sp held t v d ps) :
    ∃ cs : Array Value, v = .agg cs ∧ cs.size = P.cellsOf t ∧ ∀ i, i < n → ∃ a, cs[i]? = some (.int k a) ∧ (Lit.int k a).wf = true := by
  obtain ⟨cs, rfl, hsz, _⟩ : ∃ cs, v = .agg cs ∧ cs.size = P.cellsOf t ∧ Row.okWide P W .any b0 t cs := by simpa [Value.okWide, ht] using hval
  obtain ⟨fuel, hf⟩ := h
  obtain ⟨xs, m, _, _, _, hl, hel⟩ := DataW.trod_array ht hf
  refine ⟨cs, rfl, hsz, fun i hi => ?_⟩
  have h1 := hel i hi
  rw [hce, List.getElem?_eq_getElem (by omega)] at h1
  obtain ⟨a, hc, _, hwf⟩ := DataW.trod_int he h1
  refine ⟨a, ?_, hwf⟩
  have := congrArg (·[0]?) hc
  simpa [List.getElem?_take, List.getElem?_drop, Value.cells] using this

theorem open_words {H : Type} {enc : TypeId × Value → H} {P : Program} {W : World} {base b0 : Nat} {sp : Nat → Bool} {held : Bool} {t e : TypeId} {n : Nat} {v : Value} {d : DataW H} {ps : List MemPlace}
    (ht : P.underlying t = some (.array n e)) (he : P.underlying e = some (.int .u32)) (hce : P.cellsOf e = 1) (hct : P.cellsOf t = n) (hval : Value.okWide P W .any b0 t v) (h : DataW.Trod enc P W base sp held t v d ps) :
    ∃ l : List UInt32, v = .agg (wordsC l) ∧ l.length = n := by
  obtain ⟨cs, rfl, hsz, hel⟩ := open_cells ht he hce hval h
  rw [hct] at hsz
  refine ⟨cs.toList.map fun v => match v with | .int _ a => UInt32.ofNat a.toNat | _ => 0, ?_, by simpa using hsz⟩
  congr 1
  apply Array.toList_inj.1
  simp only [wordsC, cellsW, List.map_map]
  apply List.ext_getElem (by simp)
  intro i h1 h2
  obtain ⟨a, hc, hwf⟩ := hel i (by simpa [hsz] using h1)
  have hb := bounds_u32 hwf
  have hci : cs.toList[i] = .int .u32 a := by
    have : cs[i]? = some cs.toList[i] := by simp [Array.getElem?_eq_getElem (show i < cs.size by simpa using h1)]
    rw [hc] at this
    injection this with this
    exact this.symm
  simp only [List.getElem_map, Function.comp_apply, hci]
  rw [UInt32.toNat_ofNat_of_lt' (by simp [UInt32.size]; omega)]
  congr 1
  omega
theorem open_key {H : Type} {enc : TypeId × Value → H} {P : Program} {W : World} {base b0 : Nat} {sp : Nat → Bool} {held : Bool} {t e : TypeId} {n : Nat} {v : Value} {d : DataW H} {ps : List MemPlace}
    (ht : P.underlying t = some (.array n e)) (he : P.underlying e = some (.int .u8)) (hce : P.cellsOf e = 1) (hct : P.cellsOf t = n) (hval : Value.okWide P W .any b0 t v) (h : DataW.Trod enc P W base sp held t v d ps) :
    ∃ l : List UInt8, v = keyV l ∧ l.length = n := by
  obtain ⟨cs, rfl, hsz, hel⟩ := open_cells ht he hce hval h
  rw [hct] at hsz
  refine ⟨cs.toList.map fun v => match v with | .int _ a => UInt8.ofNat a.toNat | _ => 0, ?_, by simpa using hsz⟩
  unfold keyV
  congr 1
  apply Array.toList_inj.1
  simp only [keyC, cellsB, List.map_map]
  apply List.ext_getElem (by simp)
  intro i h1 h2
  obtain ⟨a, hc, hwf⟩ := hel i (by simpa [hsz] using h1)
  have hb := bounds_u8 hwf
  have hci : cs.toList[i] = .int .u8 a := by
    have : cs[i]? = some cs.toList[i] := by simp [Array.getElem?_eq_getElem (show i < cs.size by simpa using h1)]
    rw [hc] at this
    injection this with this
    exact this.symm
  simp only [List.getElem_map, Function.comp_apply, hci]
  rw [UInt8.toNat_ofNat_of_lt' (by simp [UInt8.size]; omega)]
  congr 1
  omega
theorem u32_of_wf {n : Int} (h : (Lit.int .u32 n).wf = true) : ∃ c : UInt32, n = (c.toNat : Int) := by
  have hb := bounds_u32 h
  exact ⟨UInt32.ofNat n.toNat, by rw [UInt32.toNat_ofNat_of_lt' (by simp [UInt32.size]; omega)]; omega⟩

/-- Cut in pieces of m. -/
theorem chunked {α : Type} (m : Nat) : ∀ (rows : List (List α)) (cs : List α), cs.length = rows.length * m → (∀ i (h : i < rows.length), (cs.drop (i * m)).take m = rows[i]) → cs = rows.flatten := by
  intro rows
  induction rows with
  | nil =>
    intro cs hl _
    exact List.eq_nil_of_length_eq_zero (by simpa using hl)
  | cons r rows ih =>
    intro cs hl h
    have h0 := h 0 (by simp)
    simp only [Nat.zero_mul, List.drop_zero, List.getElem_cons_zero] at h0
    have hrest := ih (cs.drop m) (by rw [List.length_drop, hl, List.length_cons, Nat.succ_mul]; omega) (fun i hi => by
      have := h (i + 1) (by simpa using hi)
      rw [List.getElem_cons_succ] at this
      rw [← this, List.drop_drop, Nat.succ_mul, Nat.add_comm])
    rw [List.flatten_cons, ← h0, ← hrest, List.take_append_drop]
/-- A table of arrays reads as its rows. -/
theorem cells_of_rows {H : Type} {enc : TypeId × Value → H} {P : Program} {w : World} {base : Nat} {sp : Nat → Bool} {held : Bool} {fuel : Nat} {t e b : TypeId} {n m : Nat} {k : IntKind} {cs : List Value} {rows : List (List Int)} {p : List MemPlace}
    (ht : P.underlying t = some (.array n e)) (he : P.underlying e = some (.array m b)) (hb : P.underlying b = some (.int k)) (hcb : P.cellsOf b = 1) (hce : P.cellsOf e = m) (hct : P.cellsOf t = n * m) (hn : rows.length = n)
    (h : DataW.trod enc P w base sp held fuel t cs = some (.agg (rows.map fun zs => Lib.tabData k zs), p)) : cs = rows.flatten.map fun z => Value.int k z := by
  obtain ⟨xs, f, _, hx, hlen, hl, hel⟩ := DataW.trod_array ht h
  have hxs : xs.map (·.1) = rows.map fun zs => (Lib.tabData k zs : DataW H) := by
    have := congrArg Prod.fst hx
    simpa using this.symm
  have hflat := chunked m (rows.map fun zs => zs.map fun z => Value.int k z) cs (by simp [hlen, hct, hn]) (fun i hi => by
    have hi2 : i < rows.length := by simpa using hi
    have hi3 : i < xs.length := by omega
    have h1 := hel i (by omega)
    rw [hce, List.getElem?_eq_getElem hi3] at h1
    have h2 : xs[i].1 = Lib.tabData k rows[i] := by
      have := congrArg (·[i]?) hxs
      simpa [hi2, hi3] using this
    have h3 := Lib.cells_of_tab (zs := rows[i]) (p := xs[i].2) he hb hcb hce (by rw [h1, ← h2])
    rw [List.getElem_map, h3])
  rw [hflat]
  simp [List.map_flatten]
end Go.Proofs.Ytjhhpakaemnemaa
end
section
namespace Go.Proofs.Ytjhhpakaemnemaa
open Go.RowKit
set_option linter.unusedVariables false
set_option maxRecDepth 20000

section
variable {H : Type} {enc : TypeId × Value → H} {P : Program} {W : World} {base : Nat} {sp : Nat → Bool} {held : Bool}
theorem addr_add2 (g off : Nat) (i j : Nat) : ((⟨g, off, none⟩ : Addr).add i).add j = ⟨g, off + i + j, none⟩ := by
  have e1 : (⟨g, off, none⟩ : Addr).add i = ⟨g, off + i, none⟩ := by unfold Addr.add; split <;> simp_all
  rw [e1]
  unfold Addr.add
  split <;> simp_all
/-- A list of elements of sz cells: each element's cells, and that they are read. -/
theorem open_rows {t e : TypeId} {fuel : Nat} {cs : List Value} {x : DataW H × List MemPlace} {sz : Nat} (hs0 : 0 < sz)
    (ht : P.underlying t = some (.slice e)) (hce : P.cellsOf e = sz) (hone : ∀ n (c : List Value) y, c.length = sz → DataW.trod enc P W base sp held n e c = some y → c.length = sz) (h : DataW.trod enc P W base sp held fuel t cs = some x) :
    ∃ (v : Value) (n : Nat) (f : Nat → List Value), cs = [v] ∧ Rw W v sz n f ∧ ∀ j, j < n → (f j).length = sz ∧ ∃ m y, DataW.trod enc P W base sp held m e (f j) = some y := by
  rcases DataW.trod_slice ht h with ⟨rfl, _⟩ | ⟨a, len, cap, elems, rest, n, _, rfl, _, hba, hl, hm, hlen, hel, _, _⟩
  · exact ⟨_, 0, fun _ => [], rfl, ⟨none, 0, rfl, Nat.le_refl _, by simp [maxLen], fun h => by omega⟩, fun j hj => by omega⟩
  · have each : ∀ i, i < len → ∃ c : List Value, c.length = sz ∧ (∀ j, j < sz → W.cell? ((a.add (i * sz)).add j) = c[j]?) ∧ ∃ m y, DataW.trod enc P W base sp held m e c = some y := by
      intro i hi
      have h1 := hel i hi
      rw [hce, List.getElem?_eq_getElem (by omega), Option.bind_eq_some_iff] at h1
      obtain ⟨c, hc, ht2⟩ := h1
      obtain ⟨_, hcl, hcell⟩ := World.cells?_some hc
      exact ⟨c, hcl, hcell, n, _, ht2⟩
    refine ⟨_, len, fun j => if hj : j < len then (each j hj).choose else [], rfl, ⟨some a, cap, rfl, hl, hm, fun h0 => ?_⟩, fun j hj => ?_⟩
    · obtain ⟨g, off, spot⟩ := a
      have h1 := (each 0 h0).choose_spec
      have hc := h1.2.1 0 hs0
      rw [List.getElem?_eq_getElem (by rw [h1.1]; exact hs0)] at hc
      have hspot : spot = none := by simpa [Addr.add] using World.cell?_spot hc
      subst hspot
      refine ⟨g, off, rfl, fun k hk j u hj => ?_⟩
      simp only [dif_pos hk] at hj
      have hs := (each k hk).choose_spec
      have hj2 : j < sz := by
        have := (List.getElem?_eq_some_iff.1 hj).1
        rwa [hs.1] at this
      have h3 := hs.2.1 j hj2
      rw [addr_add2] at h3
      rw [h3, hj]
    · simp only [dif_pos hj]
      have hs := (each j hj).choose_spec
      exact ⟨hs.1, hs.2.2⟩
theorem open_bs {t e : TypeId} {fuel : Nat} {cs : List Value} {x : DataW H × List MemPlace} (ht : P.underlying t = some (.slice e)) (he : P.underlying e = some (.int .u8)) (hce : P.cellsOf e = 1) (h : DataW.trod enc P W base sp held fuel t cs = some x) :
    ∃ (v : Value) (l : List UInt8), cs = [v] ∧ Bs W v l := by
  obtain ⟨v, n, f, hcs, ⟨A, c, rfl, h1, h2, h3⟩, hf⟩ := open_rows (by omega) ht hce (fun _ _ _ h _ => h) h
  have each : ∀ j, j < n → ∃ b : UInt8, f j = [.int .u8 (b.toNat : Int)] := fun j hj => by
    obtain ⟨_, m, y, hy⟩ := hf j hj
    obtain ⟨z, hz, _, hwf⟩ := DataW.trod_int he hy
    exact ⟨UInt8.ofNat z.toNat, by rw [hz, u8_of_wf hwf]⟩
  refine ⟨_, List.ofFn fun i : Fin n => (each i.1 i.2).choose, hcs, A, c, by rw [List.length_ofFn], by rw [List.length_ofFn]; exact h1, h2, fun hl => ?_⟩
  rw [List.length_ofFn] at hl
  obtain ⟨b, off, hA, hc⟩ := h3 hl
  refine ⟨b, off, hA, fun j hj => ?_⟩
  rw [List.length_ofFn] at hj
  rw [List.getElem_ofFn]
  have hs := (each j hj).choose_spec
  have h4 := hc j hj 0 (.int .u8 ((each j hj).choose.toNat : Int)) (by have := congrArg (·[0]?) hs; simpa using this)
  rw [Nat.mul_one, Nat.add_zero] at h4
  exact h4
theorem open_zs {t e : TypeId} {fuel : Nat} {cs : List Value} {x : DataW H × List MemPlace} (ht : P.underlying t = some (.slice e)) (he : P.underlying e = some (.int .i64)) (hce : P.cellsOf e = 1) (h : DataW.trod enc P W base sp held fuel t cs = some x) :
    ∃ (v : Value) (l : List Int), cs = [v] ∧ Zs W v l := by
  obtain ⟨v, n, f, hcs, ⟨A, c, rfl, h1, h2, h3⟩, hf⟩ := open_rows (by omega) ht hce (fun _ _ _ h _ => h) h
  have each : ∀ j, j < n → ∃ b : Int, f j = [.int .i64 b] := fun j hj => by
    obtain ⟨_, m, y, hy⟩ := hf j hj
    obtain ⟨z, hz, _, hwf⟩ := DataW.trod_int he hy
    exact ⟨z, hz⟩
  refine ⟨_, List.ofFn fun i : Fin n => (each i.1 i.2).choose, hcs, A, c, by rw [List.length_ofFn], by rw [List.length_ofFn]; exact h1, h2, fun hl => ?_⟩
  rw [List.length_ofFn] at hl
  obtain ⟨b, off, hA, hc⟩ := h3 hl
  refine ⟨b, off, hA, fun j hj => ?_⟩
  rw [List.length_ofFn] at hj
  rw [List.getElem_ofFn]
  have hs := (each j hj).choose_spec
  have h4 := hc j hj 0 (.int .i64 (each j hj).choose) (by have := congrArg (·[0]?) hs; simpa using this)
  rw [Nat.mul_one, Nat.add_zero] at h4
  exact h4
theorem open_kl {t e b : TypeId} {fuel : Nat} {cs : List Value} {x : DataW H × List MemPlace}
    (ht : P.underlying t = some (.slice e)) (he : P.underlying e = some (.array 32 b)) (hb : P.underlying b = some (.int .u8)) (hcb : P.cellsOf b = 1) (hce : P.cellsOf e = 32) (h : DataW.trod enc P W base sp held fuel t cs = some x) :
    ∃ (v : Value) (L : List (List UInt8)), cs = [v] ∧ Kl W v L := by
  obtain ⟨v, n, f, hcs, ⟨A, c, rfl, h1, h2, h3⟩, hf⟩ := open_rows (by omega) ht hce (fun _ _ _ h _ => h) h
  have each : ∀ j, j < n → ∃ l : List UInt8, l.length = 32 ∧ f j = cellsB l := fun j hj => by
    obtain ⟨hfl, m, y, hy⟩ := hf j hj
    obtain ⟨xs, m', _, _, _, hxl, hxe⟩ := DataW.trod_array he hy
    refine ⟨(f j).map fun v => match v with | .int _ z => UInt8.ofNat z.toNat | _ => 0, by simpa using hfl, ?_⟩
    apply List.ext_getElem (by simp [cellsB])
    intro i hi1 hi2
    rw [hfl] at hi1
    have h2 := hxe i hi1
    rw [hcb, List.getElem?_eq_getElem (by omega)] at h2
    obtain ⟨z, hz, _, hwf⟩ := DataW.trod_int hb h2
    have hcj : (f j)[i]? = some (.int .u8 z) := by
      have := congrArg (·[0]?) hz
      simpa [List.getElem?_take, List.getElem?_drop] using this
    have hcj2 : (f j)[i] = .int .u8 z := by
      rw [List.getElem?_eq_getElem (by omega)] at hcj
      exact Option.some.inj hcj
    simp only [cellsB, List.getElem_map, hcj2]
    rw [u8_of_wf hwf]
  refine ⟨_, List.ofFn fun i : Fin n => (each i.1 i.2).choose, hcs, A, c, by rw [List.length_ofFn], by rw [List.length_ofFn]; exact h1, h2, fun l hl => ?_, fun hl => ?_⟩
  · obtain ⟨i, rfl⟩ := List.mem_ofFn.1 hl
    exact (each i.1 i.2).choose_spec.1
  · rw [List.length_ofFn] at hl
    obtain ⟨g, off, hA, hc⟩ := h3 hl
    refine ⟨g, off, hA, fun k l hk => ?_⟩
    obtain ⟨hk1, hk2⟩ := List.getElem?_eq_some_iff.1 hk
    rw [List.getElem_ofFn] at hk2
    rw [List.length_ofFn] at hk1
    have hs := (each k hk1).choose_spec
    simp only at hk2
    rw [hk2] at hs
    rw [← hs.2]
    exact hc k hk1
end
theorem four_cells {c : List Value} (h : c.length = 4) {a b d e : Value} (h0 : (c.drop 0).take 1 = [a]) (h1 : (c.drop 1).take 1 = [b]) (h2 : (c.drop 2).take 1 = [d]) (h3 : (c.drop 3).take 1 = [e]) : c = [a, b, d, e] := by
  match c, h with
  | [x0, x1, x2, x3], _ =>
    simp at h0 h1 h2 h3
    rw [h0, h1, h2, h3]
theorem open_items {H : Type} {enc : TypeId × Value → H} {W : World} {base : Nat} {sp : Nat → Bool} {held : Bool} {fuel : Nat} {cs : List Value} {x : DataW H × List MemPlace} (h : DataW.trod enc Try.prog W base sp held fuel 22 cs = some x) :
    ∃ (v : Value) (its : List It), cs = [v] ∧ Its W v its := by
  obtain ⟨v, n, f, hcs, hR, hf⟩ := open_rows (sz := 4) (by omega) Try.underlying22 (by kernel_rfl) (fun _ _ _ h _ => h) h
  have each : ∀ j, j < n → ∃ (it : It) (bv lv : Value), f j = itC it bv lv ∧ Bs W bv it.b ∧ Kl W lv it.l ∧ it.n < 18446744073709551616 := fun j hj => by
    obtain ⟨hfl, m, y, hy⟩ := hf j hj
    obtain ⟨xs, m', _, _, _, hxl, hxe⟩ := DataW.trod_struct Try.underlying60 hy
    have f0 := hxe 0 _ rfl
    have f1 := hxe 1 _ rfl
    have f2 := hxe 2 _ rfl
    have f3 := hxe 3 _ rfl
    have hl4 : xs.length = 4 := hxl
    rw [List.getElem?_eq_getElem (by omega)] at f0 f1 f2 f3
    obtain ⟨k, c0, _, w0⟩ := DataW.trod_int (k := .i64) Try.underlying3 f0
    obtain ⟨u, c1, _, w1⟩ := DataW.trod_int (k := .u64) Try.underlying48 f1
    obtain ⟨bv, b, c2, hb⟩ := open_bs Try.underlying25 Try.underlying5 (by kernel_rfl) f2
    obtain ⟨lv, l, c3, hl⟩ := open_kl Try.underlying55 Try.underlying52 Try.underlying5 (by kernel_rfl) (by kernel_rfl) f3
    obtain ⟨nn, rfl, hn⟩ := u64_of_wf w1
    exact ⟨⟨k, nn, b, l⟩, bv, lv, four_cells hfl c0 c1 c2 c3, hb, hl, hn⟩
  refine ⟨v, List.ofFn fun i : Fin n => (each i.1 i.2).choose, hcs, fun j => if hj : j < n then (each j hj).choose_spec.choose else undef, fun j => if hj : j < n then (each j hj).choose_spec.choose_spec.choose else undef, ?_, fun j y hy => ?_⟩
  · rw [List.length_ofFn]
    obtain ⟨A, c, hv, h1, h2, h3⟩ := hR
    refine ⟨A, c, hv, h1, h2, fun hl => ?_⟩
    obtain ⟨b, off, hA, hc⟩ := h3 hl
    refine ⟨b, off, hA, fun j hj => ?_⟩
    have hs := (each j hj).choose_spec.choose_spec.choose_spec
    have e1 : (List.ofFn fun i : Fin n => (each i.1 i.2).choose).getD j default = (each j hj).choose := by
      rw [List.getD_eq_getElem?_getD, List.getElem?_eq_getElem (by rw [List.length_ofFn]; exact hj), List.getElem_ofFn]
      rfl
    simp only [e1, dif_pos hj]
    rw [← hs.1]
    exact hc j hj
  · obtain ⟨hj1, hj2⟩ := List.getElem?_eq_some_iff.1 hy
    rw [List.getElem_ofFn] at hj2
    rw [List.length_ofFn] at hj1
    have hs := (each j hj1).choose_spec.choose_spec.choose_spec
    simp only at hj2
    simp only [dif_pos hj1]
    have h1 : (each j hj1).choose = y := hj2
    exact ⟨h1 ▸ hs.2.1, h1 ▸ hs.2.2.1, h1 ▸ hs.2.2.2⟩
end Go.Proofs.Ytjhhpakaemnemaa
end
