/-
  Contracts of the document's own answers for the stream: a word turned left, Quarter. Conditions: as each theorem names them.
-/
import Derived.Test.YtplaoofclgpeeaaDoorStreamA
import Derived.Test.YtplaoofclgpeeaaDoorHeld
import Derived.Deep.QuietTactic
import Derived.BigQuiet
namespace Go.Proofs.YtplaoofclgpeeaaDoor
open Go.RowKit
set_option linter.unusedVariables false
set_option maxRecDepth 20000

theorem left_any (w : World) (x : UInt32) (n : Nat) (h1 : 1 ≤ n) (h2 : n ≤ 31) :
    Calls Tryd.prog 18 #[.int .u32 (x.toNat : Int), .int .i64 (n : Int)] w fun e w' => e = .returned (.int .u32 ((rotl x n).toNat : Int)) ∧ ∃ n, w' = w.drewN n := by
  have hx := x.toNat_lt
  obtain ⟨m, hm⟩ : ∃ m, m + n = 32 := ⟨32 - n, by omega⟩
  have hs2 : IntKind.i64.wrap (32 - (n : Int)) = (m : Int) := by rw [IntWalk.i64_in _ (by omega)]; omega
  have hle : (n : Int) ≤ 32 := by omega
  go_enter Tryd.func18, Tryd.ntmps18
  go_wp2
  go_quiet (fail)
  go_wp2
  go_ret
  exact ⟨ret_int (rotl_int x n m hm), _, rfl⟩

theorem Tryd.zeroW16 : (Tryd.prog.info? 23).map (·.zero) = some (some (.agg (wordsC zeroW))) := by kernel_rfl
theorem Tryd.sizeW16 (l : List UInt32) (h : l.length = 16) : (Tryd.prog.info? 23).map (·.size) = some (wordsC l).size := by
  rw [wordsC_size, h]
  exact (by kernel_rfl : (Tryd.prog.info? 23).map (·.size) = some 16)

set_option maxHeartbeats 4000000 in
theorem refQuarter_any (w : World) (ws : List UInt32) (hl : ws.length = 16) (a b c d : Int) :
    Calls Tryd.prog 11 #[.agg (wordsC ws), .int .i64 a, .int .i64 b, .int .i64 c, .int .i64 d] w (RetV w (.agg (wordsC (quarterW ws (low4 a) (low4 b) (low4 c) (low4 d))))) := by
  have ha := and15 a
  have hb := and15 b
  have hc := and15 c
  have hd := and15 d
  have la := low4_lt a
  have lb := low4_lt b
  have lc := low4_lt c
  have ld := low4_lt d
  generalize low4 a = a' at *
  generalize low4 b = b' at *
  generalize low4 c = c' at *
  generalize low4 d = d' at *
  obtain ⟨fin, hfin⟩ : ∃ fin, fin = quarterW ws a' b' c' d' := ⟨_, rfl⟩
  rw [← hfin]
  have HF := Lib.hid hfin
  have LF : Hid (fin.length = 16) := by show _ = _; rw [hfin, quarterW_length, hl]
  obtain ⟨v0, hv0⟩ : ∃ v0, v0 = ws := ⟨_, rfl⟩
  have HV0 := Lib.hid hv0
  have L0 : Hid (v0.length = 16) := by show _ = _; rw [hv0, hl]
  rw [← hv0]
  clear hfin hv0 hl
  have qa : (a' : Int) < 16 := by omega
  have qb : (b' : Int) < 16 := by omega
  have qc : (c' : Int) < 16 := by omega
  have qd : (d' : Int) < 16 := by omega
  go_enter Tryd.func11, Tryd.ntmps11
  go_wp2_with (first
    | ((with_reducible refine wpList_box_row (o := ⟨some 5, _, _, _, _, _⟩) rfl 23 (.tmp 0) rfl (wordsC v0) (by with_unfolding_all rfl) ?_); intro g1 w1 n1)
    | ((with_reducible refine wpList_alloc_row (o := ⟨some 10, _, _, _, _, _⟩) rfl 23 rfl (wordsC zeroW) Tryd.zeroW16 ?_); intro g2 wa0 n2))
  have R0 : Hid (RowAt wa0 g1 23 (wordsC v0)) := n1.row.kept n2.below
  have hg1 : w.heap.size ≤ g1 := Nat.le_of_eq n1.spot.symm
  have hg2 : w.heap.size ≤ g2 := by rw [n2.spot]; exact n1.below.size
  have hne : g2 ≠ g1 := by have := n2.spot; have := n1.row.lt; omega
  have B0 : Hid (Below w.heap.size w wa0) := below_size n1.below n2.below
  have Z0 : Hid (RowAt wa0 g2 23 (wordsC zeroW)) := n2.row
  have HNE := Lib.hid hne
  clear n1 n2 hne ha hb hc hd
  have c1 := wordsC_cell R0.out a' (by rw [L0.out]; omega)
  have c2 := wordsC_cell R0.out b' (by rw [L0.out]; omega)
  have hfz := R0.out.frozen a'
  obtain ⟨xs, hxs⟩ : ∃ xs, xs = v0.getD a' 0 + v0.getD b' 0 := ⟨_, rfl⟩
  have hsum : IntKind.u32.wrap (((v0.getD a' 0).toNat : Int) + ((v0.getD b' 0).toNat : Int)) = (xs.toNat : Int) := by rw [add32, hxs]
  have hput := R0.out.put a' (.int .u32 (xs.toNat : Int))
  rw [wordsC_put] at hput
  obtain ⟨v1, hvm⟩ : ∃ v1, v1 = v0.set a' xs := ⟨_, rfl⟩
  rw [← hvm] at hput
  have LM : Hid (v1.length = 16) := by show _ = _; rw [hvm, List.length_set, L0.out]
  have HST : Hid (stirW v0 a' b' d' 16 = v1.set d' (rotl (v1.getD d' 0 ^^^ v1.getD a' 0) 16)) := by
    show _ = _
    rw [hvm, hxs]
    rfl
  have HP := Lib.hid hput
  generalize v0.getD a' 0 = x1 at c1 hsum
  generalize v0.getD b' 0 = x2 at c2 hsum
  clear hput hvm hxs
  go_wp2_with fail
  go_still_tail 9, (by kernel_rfl)
  change wpList _ _ _ _ _ wa0.drew
  have hcell : wa0.drew.cell? ⟨g1, a', none⟩ = some (.int .u32 (x1.toNat : Int)) := c1
  have hfz2 : wa0.drew.frozen? ⟨g1, a', none⟩ = false := hfz
  clear c1 c2 hfz hsum
  go_wp2_with fail
  clear hcell hfz2
  have RM : Hid (RowAt (wa0.setCell ⟨g1, a', none⟩ (.int .u32 (xs.toNat : Int))).drew g1 23 (wordsC v1)) := HP.out.drew
  have BM : Hid (Below w.heap.size w (wa0.setCell ⟨g1, a', none⟩ (.int .u32 (xs.toNat : Int))).drew) := (B0.out.setCell hg1 _).drew
  have ZM : Hid (RowAt (wa0.setCell ⟨g1, a', none⟩ (.int .u32 (xs.toNat : Int))).drew g2 23 (wordsC zeroW)) := (Z0.out.far (by show g2 ≠ g1; exact HNE.out) _).drew
  clear HP R0 B0 Z0
  generalize (wa0.setCell ⟨g1, a', none⟩ (.int .u32 (xs.toNat : Int))).drew = wm at RM BM ZM ⊢
  have c3 := wordsC_cell RM.out d' (by rw [LM.out]; omega)
  have c4 := wordsC_cell RM.out a' (by rw [LM.out]; omega)
  have hfz := RM.out.frozen d'
  obtain ⟨z, hz⟩ : ∃ z, z = v1.getD d' 0 ^^^ v1.getD a' 0 := ⟨_, rfl⟩
  have hxor : bits .xor .u32 ((v1.getD d' 0).toNat : Int) ((v1.getD a' 0).toNat : Int) = (z.toNat : Int) := by rw [xor32, hz]
  have HX := Lib.hid hxor
  have hput := fun n => (RM.out.drewN n).put d' (.int .u32 ((rotl z 16).toNat : Int))
  obtain ⟨v2, hvo⟩ : ∃ v2, v2 = stirW v0 a' b' d' 16 := ⟨_, rfl⟩
  have hfin : v1.set d' (rotl z 16) = v2 := by rw [hvo, HST.out, hz]
  simp only [wordsC_put, hfin] at hput
  have HP := Lib.hid hput
  have HVO0 := Lib.hid hvo
  have L1 : Hid (v2.length = 16) := by show _ = _; rw [hvo, stirW_length, L0.out]
  clear hput hfin hz hvo HST hxor
  generalize v1.getD d' 0 = y1 at c3 HX
  generalize v1.getD a' 0 = y2 at c4 HX
  refine plain_region (S := fun W' => ∃ n, W' = wm.drewN n) (fin := fun j => j == 10) (by kernel_rfl) ?_
  have hS : ∃ n, wm.drew = wm.drewN n := ⟨1, rfl⟩
  change walkS _ _ _ _ _ _ 11 _ _ _
  refine walkS_take (i := 0) (oi := ⟨some 28, _, _, _, _, _⟩) (v := .int .i64 (d' : Int)) rfl (by kernel_rfl) (by kernel_rfl) (fun _ _ _ h => h) _ _ _ _ (by kernel_rfl) (by kernel_rfl) (Or.inl ⟨by rfl, fun w' hS' => (by clear hS hS'; go_simp)⟩) hS ?_
  simp only [Act.put, List.setIfInBounds_toArray, List.set_cons_zero, List.set_cons_succ]
  refine walkS_take (i := 1) (oi := ⟨some 29, _, _, _, _, _⟩) (v := .int .i64 (d' : Int)) rfl (by kernel_rfl) (by kernel_rfl) (fun _ _ _ h => h) _ _ _ _ (by kernel_rfl) (by kernel_rfl) (Or.inl ⟨by rfl, fun w' hS' => (by clear hS hS'; go_simp)⟩) hS ?_
  simp only [Act.put, List.setIfInBounds_toArray, List.set_cons_zero, List.set_cons_succ]
  refine walkS_take (i := 2) (oi := ⟨some 30, _, _, _, _, _⟩) (v := .pointer (some ⟨g1, d', none⟩)) rfl (by kernel_rfl) (by kernel_rfl) (fun _ _ _ h => h) _ _ _ _ (by kernel_rfl) (by kernel_rfl) (Or.inl ⟨by rfl, fun w' hS' => (by clear hS hS'; go_simp)⟩) hS ?_
  simp only [Act.put, List.setIfInBounds_toArray, List.set_cons_zero, List.set_cons_succ]
  refine walkS_take (i := 3) (oi := ⟨some 31, _, _, _, _, _⟩) (v := .int .u32 (y1.toNat : Int)) rfl (by kernel_rfl) (by kernel_rfl) (fun _ _ _ h => h) _ _ _ _ (by kernel_rfl) (by kernel_rfl) (Or.inl ⟨by rfl, fun w' hS' => (by obtain ⟨n, rfl⟩ := hS'; have c5 : (wm.drewN n).cell? ⟨g1, d', none⟩ = some (.int .u32 (y1.toNat : Int)) := c3; clear hS; go_simp)⟩) hS ?_
  simp only [Act.put, List.setIfInBounds_toArray, List.set_cons_zero, List.set_cons_succ]
  refine walkS_take (i := 4) (oi := ⟨some 32, _, _, _, _, _⟩) (v := .int .i64 (a' : Int)) rfl (by kernel_rfl) (by kernel_rfl) (fun _ _ _ h => h) _ _ _ _ (by kernel_rfl) (by kernel_rfl) (Or.inl ⟨by rfl, fun w' hS' => (by clear hS hS'; go_simp)⟩) hS ?_
  simp only [Act.put, List.setIfInBounds_toArray, List.set_cons_zero, List.set_cons_succ]
  refine walkS_take (i := 5) (oi := ⟨some 33, _, _, _, _, _⟩) (v := .pointer (some ⟨g1, a', none⟩)) rfl (by kernel_rfl) (by kernel_rfl) (fun _ _ _ h => h) _ _ _ _ (by kernel_rfl) (by kernel_rfl) (Or.inl ⟨by rfl, fun w' hS' => (by clear hS hS'; go_simp)⟩) hS ?_
  simp only [Act.put, List.setIfInBounds_toArray, List.set_cons_zero, List.set_cons_succ]
  refine walkS_take (i := 6) (oi := ⟨some 34, _, _, _, _, _⟩) (v := .int .u32 (y2.toNat : Int)) rfl (by kernel_rfl) (by kernel_rfl) (fun _ _ _ h => h) _ _ _ _ (by kernel_rfl) (by kernel_rfl) (Or.inl ⟨by rfl, fun w' hS' => (by obtain ⟨n, rfl⟩ := hS'; have c5 : (wm.drewN n).cell? ⟨g1, a', none⟩ = some (.int .u32 (y2.toNat : Int)) := c4; clear hS; go_simp)⟩) hS ?_
  simp only [Act.put, List.setIfInBounds_toArray, List.set_cons_zero, List.set_cons_succ]
  refine walkS_take (i := 7) (oi := ⟨some 35, _, _, _, _, _⟩) (v := .int .u32 (z.toNat : Int)) rfl (by kernel_rfl) (by kernel_rfl) (fun _ _ _ h => h) _ _ _ _ (by kernel_rfl) (by kernel_rfl) (Or.inl ⟨by rfl, fun w' hS' => (by have hx := HX.out; clear hS hS'; go_simp)⟩) hS ?_
  simp only [Act.put, List.setIfInBounds_toArray, List.set_cons_zero, List.set_cons_succ]
  refine walkS_only (i := 8) (o := ⟨some 36, _, _, _, _, _⟩) (by kernel_rfl) rfl rfl fun K hK => ?_
  clear hS
  go_simp
  refine (left_any _ z 16 (by omega) (by omega)).mono ?_
  rintro e w5 ⟨rfl, m, rfl⟩
  have hS : ∃ n, wm.drew.drewN m = wm.drewN n := ⟨1 + m, World.drewN_drewN wm 1 m⟩
  refine hK _ _ (.inr hS) ?_
  clear hK K
  refine walkS_take (i := 9) (oi := ⟨some 37, _, _, _, _, _⟩) (v := .pointer (some ⟨g1, d', none⟩)) rfl (by kernel_rfl) (by kernel_rfl) (fun _ _ _ h => h) _ _ _ _ (by kernel_rfl) (by kernel_rfl) (Or.inl ⟨by rfl, fun w' hS' => (by clear hS hS'; go_simp)⟩) hS ?_
  simp only [Act.put, List.setIfInBounds_toArray, List.set_cons_zero, List.set_cons_succ]
  refine walkS_only (i := 10) (o := ⟨none, _, _, _, _, _⟩) (by kernel_rfl) rfl rfl fun K hK => ?_
  obtain ⟨m2, hm2⟩ := hS
  rw [hm2]
  clear hm2
  have c5 : (wm.drewN m2).cell? ⟨g1, d', none⟩ = some (.int .u32 (y1.toNat : Int)) := c3
  have f5 : (wm.drewN m2).frozen? ⟨g1, d', none⟩ = false := hfz
  clear c3 c4 hfz
  go_simp
  refine hK _ _ (.inl rfl) ?_
  clear hK K c5 f5
  refine walkS_done (by kernel_rfl) ?_ _
  have R1 : Hid (RowAt ((wm.drewN m2).setCell ⟨g1, d', none⟩ (.int .u32 ((rotl z 16).toNat : Int))) g1 23 (wordsC v2)) := HP.out m2
  have B1 : Hid (Below w.heap.size w ((wm.drewN m2).setCell ⟨g1, d', none⟩ (.int .u32 ((rotl z 16).toNat : Int)))) := (below_drewN BM.out m2).setCell hg1 _
  have Z1 : Hid (RowAt ((wm.drewN m2).setCell ⟨g1, d', none⟩ (.int .u32 ((rotl z 16).toNat : Int))) g2 23 (wordsC zeroW)) := (ZM.out.drewN m2).far (by show g2 ≠ g1; exact HNE.out) _
  clear HP BM RM ZM LM L0 HX
  generalize (wm.drewN m2).setCell ⟨g1, d', none⟩ (.int .u32 ((rotl z 16).toNat : Int)) = wa1 at R1 B1 Z1 ⊢
  clear wa0 wm v1
  have c1 := wordsC_cell R1.out c' (by rw [L1.out]; omega)
  have c2 := wordsC_cell R1.out d' (by rw [L1.out]; omega)
  have hfz := R1.out.frozen c'
  obtain ⟨xs, hxs⟩ : ∃ xs, xs = v2.getD c' 0 + v2.getD d' 0 := ⟨_, rfl⟩
  have hsum : IntKind.u32.wrap (((v2.getD c' 0).toNat : Int) + ((v2.getD d' 0).toNat : Int)) = (xs.toNat : Int) := by rw [add32, hxs]
  have hput := R1.out.put c' (.int .u32 (xs.toNat : Int))
  rw [wordsC_put] at hput
  obtain ⟨v3, hvm⟩ : ∃ v3, v3 = v2.set c' xs := ⟨_, rfl⟩
  rw [← hvm] at hput
  have LM : Hid (v3.length = 16) := by show _ = _; rw [hvm, List.length_set, L1.out]
  have HST : Hid (stirW v2 c' d' b' 12 = v3.set b' (rotl (v3.getD b' 0 ^^^ v3.getD c' 0) 12)) := by
    show _ = _
    rw [hvm, hxs]
    rfl
  have HP := Lib.hid hput
  generalize v2.getD c' 0 = x1 at c1 hsum
  generalize v2.getD d' 0 = x2 at c2 hsum
  clear hput hvm hxs
  go_wp2_with fail
  go_still_tail 9, (by kernel_rfl)
  change wpList _ _ _ _ _ wa1.drew
  have hcell : wa1.drew.cell? ⟨g1, c', none⟩ = some (.int .u32 (x1.toNat : Int)) := c1
  have hfz2 : wa1.drew.frozen? ⟨g1, c', none⟩ = false := hfz
  clear c1 c2 hfz hsum
  go_wp2_with fail
  clear hcell hfz2
  have RM : Hid (RowAt (wa1.setCell ⟨g1, c', none⟩ (.int .u32 (xs.toNat : Int))).drew g1 23 (wordsC v3)) := HP.out.drew
  have BM : Hid (Below w.heap.size w (wa1.setCell ⟨g1, c', none⟩ (.int .u32 (xs.toNat : Int))).drew) := (B1.out.setCell hg1 _).drew
  have ZM : Hid (RowAt (wa1.setCell ⟨g1, c', none⟩ (.int .u32 (xs.toNat : Int))).drew g2 23 (wordsC zeroW)) := (Z1.out.far (by show g2 ≠ g1; exact HNE.out) _).drew
  clear HP R1 B1 Z1
  generalize (wa1.setCell ⟨g1, c', none⟩ (.int .u32 (xs.toNat : Int))).drew = wm at RM BM ZM ⊢
  have c3 := wordsC_cell RM.out b' (by rw [LM.out]; omega)
  have c4 := wordsC_cell RM.out c' (by rw [LM.out]; omega)
  have hfz := RM.out.frozen b'
  obtain ⟨z, hz⟩ : ∃ z, z = v3.getD b' 0 ^^^ v3.getD c' 0 := ⟨_, rfl⟩
  have hxor : bits .xor .u32 ((v3.getD b' 0).toNat : Int) ((v3.getD c' 0).toNat : Int) = (z.toNat : Int) := by rw [xor32, hz]
  have HX := Lib.hid hxor
  have hput := fun n => (RM.out.drewN n).put b' (.int .u32 ((rotl z 12).toNat : Int))
  obtain ⟨v4, hvo⟩ : ∃ v4, v4 = stirW v2 c' d' b' 12 := ⟨_, rfl⟩
  have hfin : v3.set b' (rotl z 12) = v4 := by rw [hvo, HST.out, hz]
  simp only [wordsC_put, hfin] at hput
  have HP := Lib.hid hput
  have HVO1 := Lib.hid hvo
  have L2 : Hid (v4.length = 16) := by show _ = _; rw [hvo, stirW_length, L1.out]
  clear hput hfin hz hvo HST hxor
  generalize v3.getD b' 0 = y1 at c3 HX
  generalize v3.getD c' 0 = y2 at c4 HX
  refine plain_region (S := fun W' => ∃ n, W' = wm.drewN n) (fin := fun j => j == 10) (by kernel_rfl) ?_
  have hS : ∃ n, wm.drew = wm.drewN n := ⟨1, rfl⟩
  change walkS _ _ _ _ _ _ 11 _ _ _
  refine walkS_take (i := 0) (oi := ⟨some 47, _, _, _, _, _⟩) (v := .int .i64 (b' : Int)) rfl (by kernel_rfl) (by kernel_rfl) (fun _ _ _ h => h) _ _ _ _ (by kernel_rfl) (by kernel_rfl) (Or.inl ⟨by rfl, fun w' hS' => (by clear hS hS'; go_simp)⟩) hS ?_
  simp only [Act.put, List.setIfInBounds_toArray, List.set_cons_zero, List.set_cons_succ]
  refine walkS_take (i := 1) (oi := ⟨some 48, _, _, _, _, _⟩) (v := .int .i64 (b' : Int)) rfl (by kernel_rfl) (by kernel_rfl) (fun _ _ _ h => h) _ _ _ _ (by kernel_rfl) (by kernel_rfl) (Or.inl ⟨by rfl, fun w' hS' => (by clear hS hS'; go_simp)⟩) hS ?_
  simp only [Act.put, List.setIfInBounds_toArray, List.set_cons_zero, List.set_cons_succ]
  refine walkS_take (i := 2) (oi := ⟨some 49, _, _, _, _, _⟩) (v := .pointer (some ⟨g1, b', none⟩)) rfl (by kernel_rfl) (by kernel_rfl) (fun _ _ _ h => h) _ _ _ _ (by kernel_rfl) (by kernel_rfl) (Or.inl ⟨by rfl, fun w' hS' => (by clear hS hS'; go_simp)⟩) hS ?_
  simp only [Act.put, List.setIfInBounds_toArray, List.set_cons_zero, List.set_cons_succ]
  refine walkS_take (i := 3) (oi := ⟨some 50, _, _, _, _, _⟩) (v := .int .u32 (y1.toNat : Int)) rfl (by kernel_rfl) (by kernel_rfl) (fun _ _ _ h => h) _ _ _ _ (by kernel_rfl) (by kernel_rfl) (Or.inl ⟨by rfl, fun w' hS' => (by obtain ⟨n, rfl⟩ := hS'; have c5 : (wm.drewN n).cell? ⟨g1, b', none⟩ = some (.int .u32 (y1.toNat : Int)) := c3; clear hS; go_simp)⟩) hS ?_
  simp only [Act.put, List.setIfInBounds_toArray, List.set_cons_zero, List.set_cons_succ]
  refine walkS_take (i := 4) (oi := ⟨some 51, _, _, _, _, _⟩) (v := .int .i64 (c' : Int)) rfl (by kernel_rfl) (by kernel_rfl) (fun _ _ _ h => h) _ _ _ _ (by kernel_rfl) (by kernel_rfl) (Or.inl ⟨by rfl, fun w' hS' => (by clear hS hS'; go_simp)⟩) hS ?_
  simp only [Act.put, List.setIfInBounds_toArray, List.set_cons_zero, List.set_cons_succ]
  refine walkS_take (i := 5) (oi := ⟨some 52, _, _, _, _, _⟩) (v := .pointer (some ⟨g1, c', none⟩)) rfl (by kernel_rfl) (by kernel_rfl) (fun _ _ _ h => h) _ _ _ _ (by kernel_rfl) (by kernel_rfl) (Or.inl ⟨by rfl, fun w' hS' => (by clear hS hS'; go_simp)⟩) hS ?_
  simp only [Act.put, List.setIfInBounds_toArray, List.set_cons_zero, List.set_cons_succ]
  refine walkS_take (i := 6) (oi := ⟨some 53, _, _, _, _, _⟩) (v := .int .u32 (y2.toNat : Int)) rfl (by kernel_rfl) (by kernel_rfl) (fun _ _ _ h => h) _ _ _ _ (by kernel_rfl) (by kernel_rfl) (Or.inl ⟨by rfl, fun w' hS' => (by obtain ⟨n, rfl⟩ := hS'; have c5 : (wm.drewN n).cell? ⟨g1, c', none⟩ = some (.int .u32 (y2.toNat : Int)) := c4; clear hS; go_simp)⟩) hS ?_
  simp only [Act.put, List.setIfInBounds_toArray, List.set_cons_zero, List.set_cons_succ]
  refine walkS_take (i := 7) (oi := ⟨some 54, _, _, _, _, _⟩) (v := .int .u32 (z.toNat : Int)) rfl (by kernel_rfl) (by kernel_rfl) (fun _ _ _ h => h) _ _ _ _ (by kernel_rfl) (by kernel_rfl) (Or.inl ⟨by rfl, fun w' hS' => (by have hx := HX.out; clear hS hS'; go_simp)⟩) hS ?_
  simp only [Act.put, List.setIfInBounds_toArray, List.set_cons_zero, List.set_cons_succ]
  refine walkS_only (i := 8) (o := ⟨some 55, _, _, _, _, _⟩) (by kernel_rfl) rfl rfl fun K hK => ?_
  clear hS
  go_simp
  refine (left_any _ z 12 (by omega) (by omega)).mono ?_
  rintro e w5 ⟨rfl, m, rfl⟩
  have hS : ∃ n, wm.drew.drewN m = wm.drewN n := ⟨1 + m, World.drewN_drewN wm 1 m⟩
  refine hK _ _ (.inr hS) ?_
  clear hK K
  refine walkS_take (i := 9) (oi := ⟨some 56, _, _, _, _, _⟩) (v := .pointer (some ⟨g1, b', none⟩)) rfl (by kernel_rfl) (by kernel_rfl) (fun _ _ _ h => h) _ _ _ _ (by kernel_rfl) (by kernel_rfl) (Or.inl ⟨by rfl, fun w' hS' => (by clear hS hS'; go_simp)⟩) hS ?_
  simp only [Act.put, List.setIfInBounds_toArray, List.set_cons_zero, List.set_cons_succ]
  refine walkS_only (i := 10) (o := ⟨none, _, _, _, _, _⟩) (by kernel_rfl) rfl rfl fun K hK => ?_
  obtain ⟨m2, hm2⟩ := hS
  rw [hm2]
  clear hm2
  have c5 : (wm.drewN m2).cell? ⟨g1, b', none⟩ = some (.int .u32 (y1.toNat : Int)) := c3
  have f5 : (wm.drewN m2).frozen? ⟨g1, b', none⟩ = false := hfz
  clear c3 c4 hfz
  go_simp
  refine hK _ _ (.inl rfl) ?_
  clear hK K c5 f5
  refine walkS_done (by kernel_rfl) ?_ _
  have R2 : Hid (RowAt ((wm.drewN m2).setCell ⟨g1, b', none⟩ (.int .u32 ((rotl z 12).toNat : Int))) g1 23 (wordsC v4)) := HP.out m2
  have B2 : Hid (Below w.heap.size w ((wm.drewN m2).setCell ⟨g1, b', none⟩ (.int .u32 ((rotl z 12).toNat : Int)))) := (below_drewN BM.out m2).setCell hg1 _
  have Z2 : Hid (RowAt ((wm.drewN m2).setCell ⟨g1, b', none⟩ (.int .u32 ((rotl z 12).toNat : Int))) g2 23 (wordsC zeroW)) := (ZM.out.drewN m2).far (by show g2 ≠ g1; exact HNE.out) _
  clear HP BM RM ZM LM L1 HX
  generalize (wm.drewN m2).setCell ⟨g1, b', none⟩ (.int .u32 ((rotl z 12).toNat : Int)) = wa2 at R2 B2 Z2 ⊢
  clear wa1 wm v3
  have c1 := wordsC_cell R2.out a' (by rw [L2.out]; omega)
  have c2 := wordsC_cell R2.out b' (by rw [L2.out]; omega)
  have hfz := R2.out.frozen a'
  obtain ⟨xs, hxs⟩ : ∃ xs, xs = v4.getD a' 0 + v4.getD b' 0 := ⟨_, rfl⟩
  have hsum : IntKind.u32.wrap (((v4.getD a' 0).toNat : Int) + ((v4.getD b' 0).toNat : Int)) = (xs.toNat : Int) := by rw [add32, hxs]
  have hput := R2.out.put a' (.int .u32 (xs.toNat : Int))
  rw [wordsC_put] at hput
  obtain ⟨v5, hvm⟩ : ∃ v5, v5 = v4.set a' xs := ⟨_, rfl⟩
  rw [← hvm] at hput
  have LM : Hid (v5.length = 16) := by show _ = _; rw [hvm, List.length_set, L2.out]
  have HST : Hid (stirW v4 a' b' d' 8 = v5.set d' (rotl (v5.getD d' 0 ^^^ v5.getD a' 0) 8)) := by
    show _ = _
    rw [hvm, hxs]
    rfl
  have HP := Lib.hid hput
  generalize v4.getD a' 0 = x1 at c1 hsum
  generalize v4.getD b' 0 = x2 at c2 hsum
  clear hput hvm hxs
  go_wp2_with fail
  go_still_tail 9, (by kernel_rfl)
  change wpList _ _ _ _ _ wa2.drew
  have hcell : wa2.drew.cell? ⟨g1, a', none⟩ = some (.int .u32 (x1.toNat : Int)) := c1
  have hfz2 : wa2.drew.frozen? ⟨g1, a', none⟩ = false := hfz
  clear c1 c2 hfz hsum
  go_wp2_with fail
  clear hcell hfz2
  have RM : Hid (RowAt (wa2.setCell ⟨g1, a', none⟩ (.int .u32 (xs.toNat : Int))).drew g1 23 (wordsC v5)) := HP.out.drew
  have BM : Hid (Below w.heap.size w (wa2.setCell ⟨g1, a', none⟩ (.int .u32 (xs.toNat : Int))).drew) := (B2.out.setCell hg1 _).drew
  have ZM : Hid (RowAt (wa2.setCell ⟨g1, a', none⟩ (.int .u32 (xs.toNat : Int))).drew g2 23 (wordsC zeroW)) := (Z2.out.far (by show g2 ≠ g1; exact HNE.out) _).drew
  clear HP R2 B2 Z2
  generalize (wa2.setCell ⟨g1, a', none⟩ (.int .u32 (xs.toNat : Int))).drew = wm at RM BM ZM ⊢
  have c3 := wordsC_cell RM.out d' (by rw [LM.out]; omega)
  have c4 := wordsC_cell RM.out a' (by rw [LM.out]; omega)
  have hfz := RM.out.frozen d'
  obtain ⟨z, hz⟩ : ∃ z, z = v5.getD d' 0 ^^^ v5.getD a' 0 := ⟨_, rfl⟩
  have hxor : bits .xor .u32 ((v5.getD d' 0).toNat : Int) ((v5.getD a' 0).toNat : Int) = (z.toNat : Int) := by rw [xor32, hz]
  have HX := Lib.hid hxor
  have hput := fun n => (RM.out.drewN n).put d' (.int .u32 ((rotl z 8).toNat : Int))
  obtain ⟨v6, hvo⟩ : ∃ v6, v6 = stirW v4 a' b' d' 8 := ⟨_, rfl⟩
  have hfin : v5.set d' (rotl z 8) = v6 := by rw [hvo, HST.out, hz]
  simp only [wordsC_put, hfin] at hput
  have HP := Lib.hid hput
  have HVO2 := Lib.hid hvo
  have L3 : Hid (v6.length = 16) := by show _ = _; rw [hvo, stirW_length, L2.out]
  clear hput hfin hz hvo HST hxor
  generalize v5.getD d' 0 = y1 at c3 HX
  generalize v5.getD a' 0 = y2 at c4 HX
  refine plain_region (S := fun W' => ∃ n, W' = wm.drewN n) (fin := fun j => j == 10) (by kernel_rfl) ?_
  have hS : ∃ n, wm.drew = wm.drewN n := ⟨1, rfl⟩
  change walkS _ _ _ _ _ _ 11 _ _ _
  refine walkS_take (i := 0) (oi := ⟨some 66, _, _, _, _, _⟩) (v := .int .i64 (d' : Int)) rfl (by kernel_rfl) (by kernel_rfl) (fun _ _ _ h => h) _ _ _ _ (by kernel_rfl) (by kernel_rfl) (Or.inl ⟨by rfl, fun w' hS' => (by clear hS hS'; go_simp)⟩) hS ?_
  simp only [Act.put, List.setIfInBounds_toArray, List.set_cons_zero, List.set_cons_succ]
  refine walkS_take (i := 1) (oi := ⟨some 67, _, _, _, _, _⟩) (v := .int .i64 (d' : Int)) rfl (by kernel_rfl) (by kernel_rfl) (fun _ _ _ h => h) _ _ _ _ (by kernel_rfl) (by kernel_rfl) (Or.inl ⟨by rfl, fun w' hS' => (by clear hS hS'; go_simp)⟩) hS ?_
  simp only [Act.put, List.setIfInBounds_toArray, List.set_cons_zero, List.set_cons_succ]
  refine walkS_take (i := 2) (oi := ⟨some 68, _, _, _, _, _⟩) (v := .pointer (some ⟨g1, d', none⟩)) rfl (by kernel_rfl) (by kernel_rfl) (fun _ _ _ h => h) _ _ _ _ (by kernel_rfl) (by kernel_rfl) (Or.inl ⟨by rfl, fun w' hS' => (by clear hS hS'; go_simp)⟩) hS ?_
  simp only [Act.put, List.setIfInBounds_toArray, List.set_cons_zero, List.set_cons_succ]
  refine walkS_take (i := 3) (oi := ⟨some 69, _, _, _, _, _⟩) (v := .int .u32 (y1.toNat : Int)) rfl (by kernel_rfl) (by kernel_rfl) (fun _ _ _ h => h) _ _ _ _ (by kernel_rfl) (by kernel_rfl) (Or.inl ⟨by rfl, fun w' hS' => (by obtain ⟨n, rfl⟩ := hS'; have c5 : (wm.drewN n).cell? ⟨g1, d', none⟩ = some (.int .u32 (y1.toNat : Int)) := c3; clear hS; go_simp)⟩) hS ?_
  simp only [Act.put, List.setIfInBounds_toArray, List.set_cons_zero, List.set_cons_succ]
  refine walkS_take (i := 4) (oi := ⟨some 70, _, _, _, _, _⟩) (v := .int .i64 (a' : Int)) rfl (by kernel_rfl) (by kernel_rfl) (fun _ _ _ h => h) _ _ _ _ (by kernel_rfl) (by kernel_rfl) (Or.inl ⟨by rfl, fun w' hS' => (by clear hS hS'; go_simp)⟩) hS ?_
  simp only [Act.put, List.setIfInBounds_toArray, List.set_cons_zero, List.set_cons_succ]
  refine walkS_take (i := 5) (oi := ⟨some 71, _, _, _, _, _⟩) (v := .pointer (some ⟨g1, a', none⟩)) rfl (by kernel_rfl) (by kernel_rfl) (fun _ _ _ h => h) _ _ _ _ (by kernel_rfl) (by kernel_rfl) (Or.inl ⟨by rfl, fun w' hS' => (by clear hS hS'; go_simp)⟩) hS ?_
  simp only [Act.put, List.setIfInBounds_toArray, List.set_cons_zero, List.set_cons_succ]
  refine walkS_take (i := 6) (oi := ⟨some 72, _, _, _, _, _⟩) (v := .int .u32 (y2.toNat : Int)) rfl (by kernel_rfl) (by kernel_rfl) (fun _ _ _ h => h) _ _ _ _ (by kernel_rfl) (by kernel_rfl) (Or.inl ⟨by rfl, fun w' hS' => (by obtain ⟨n, rfl⟩ := hS'; have c5 : (wm.drewN n).cell? ⟨g1, a', none⟩ = some (.int .u32 (y2.toNat : Int)) := c4; clear hS; go_simp)⟩) hS ?_
  simp only [Act.put, List.setIfInBounds_toArray, List.set_cons_zero, List.set_cons_succ]
  refine walkS_take (i := 7) (oi := ⟨some 73, _, _, _, _, _⟩) (v := .int .u32 (z.toNat : Int)) rfl (by kernel_rfl) (by kernel_rfl) (fun _ _ _ h => h) _ _ _ _ (by kernel_rfl) (by kernel_rfl) (Or.inl ⟨by rfl, fun w' hS' => (by have hx := HX.out; clear hS hS'; go_simp)⟩) hS ?_
  simp only [Act.put, List.setIfInBounds_toArray, List.set_cons_zero, List.set_cons_succ]
  refine walkS_only (i := 8) (o := ⟨some 74, _, _, _, _, _⟩) (by kernel_rfl) rfl rfl fun K hK => ?_
  clear hS
  go_simp
  refine (left_any _ z 8 (by omega) (by omega)).mono ?_
  rintro e w5 ⟨rfl, m, rfl⟩
  have hS : ∃ n, wm.drew.drewN m = wm.drewN n := ⟨1 + m, World.drewN_drewN wm 1 m⟩
  refine hK _ _ (.inr hS) ?_
  clear hK K
  refine walkS_take (i := 9) (oi := ⟨some 75, _, _, _, _, _⟩) (v := .pointer (some ⟨g1, d', none⟩)) rfl (by kernel_rfl) (by kernel_rfl) (fun _ _ _ h => h) _ _ _ _ (by kernel_rfl) (by kernel_rfl) (Or.inl ⟨by rfl, fun w' hS' => (by clear hS hS'; go_simp)⟩) hS ?_
  simp only [Act.put, List.setIfInBounds_toArray, List.set_cons_zero, List.set_cons_succ]
  refine walkS_only (i := 10) (o := ⟨none, _, _, _, _, _⟩) (by kernel_rfl) rfl rfl fun K hK => ?_
  obtain ⟨m2, hm2⟩ := hS
  rw [hm2]
  clear hm2
  have c5 : (wm.drewN m2).cell? ⟨g1, d', none⟩ = some (.int .u32 (y1.toNat : Int)) := c3
  have f5 : (wm.drewN m2).frozen? ⟨g1, d', none⟩ = false := hfz
  clear c3 c4 hfz
  go_simp
  refine hK _ _ (.inl rfl) ?_
  clear hK K c5 f5
  refine walkS_done (by kernel_rfl) ?_ _
  have R3 : Hid (RowAt ((wm.drewN m2).setCell ⟨g1, d', none⟩ (.int .u32 ((rotl z 8).toNat : Int))) g1 23 (wordsC v6)) := HP.out m2
  have B3 : Hid (Below w.heap.size w ((wm.drewN m2).setCell ⟨g1, d', none⟩ (.int .u32 ((rotl z 8).toNat : Int)))) := (below_drewN BM.out m2).setCell hg1 _
  have Z3 : Hid (RowAt ((wm.drewN m2).setCell ⟨g1, d', none⟩ (.int .u32 ((rotl z 8).toNat : Int))) g2 23 (wordsC zeroW)) := (ZM.out.drewN m2).far (by show g2 ≠ g1; exact HNE.out) _
  clear HP BM RM ZM LM L2 HX
  generalize (wm.drewN m2).setCell ⟨g1, d', none⟩ (.int .u32 ((rotl z 8).toNat : Int)) = wa3 at R3 B3 Z3 ⊢
  clear wa2 wm v5
  have c1 := wordsC_cell R3.out c' (by rw [L3.out]; omega)
  have c2 := wordsC_cell R3.out d' (by rw [L3.out]; omega)
  have hfz := R3.out.frozen c'
  obtain ⟨xs, hxs⟩ : ∃ xs, xs = v6.getD c' 0 + v6.getD d' 0 := ⟨_, rfl⟩
  have hsum : IntKind.u32.wrap (((v6.getD c' 0).toNat : Int) + ((v6.getD d' 0).toNat : Int)) = (xs.toNat : Int) := by rw [add32, hxs]
  have hput := R3.out.put c' (.int .u32 (xs.toNat : Int))
  rw [wordsC_put] at hput
  obtain ⟨v7, hvm⟩ : ∃ v7, v7 = v6.set c' xs := ⟨_, rfl⟩
  rw [← hvm] at hput
  have LM : Hid (v7.length = 16) := by show _ = _; rw [hvm, List.length_set, L3.out]
  have HST : Hid (stirW v6 c' d' b' 7 = v7.set b' (rotl (v7.getD b' 0 ^^^ v7.getD c' 0) 7)) := by
    show _ = _
    rw [hvm, hxs]
    rfl
  have HP := Lib.hid hput
  generalize v6.getD c' 0 = x1 at c1 hsum
  generalize v6.getD d' 0 = x2 at c2 hsum
  clear hput hvm hxs
  go_wp2_with fail
  go_still_tail 9, (by kernel_rfl)
  change wpList _ _ _ _ _ wa3.drew
  have hcell : wa3.drew.cell? ⟨g1, c', none⟩ = some (.int .u32 (x1.toNat : Int)) := c1
  have hfz2 : wa3.drew.frozen? ⟨g1, c', none⟩ = false := hfz
  clear c1 c2 hfz hsum
  go_wp2_with fail
  clear hcell hfz2
  have RM : Hid (RowAt (wa3.setCell ⟨g1, c', none⟩ (.int .u32 (xs.toNat : Int))).drew g1 23 (wordsC v7)) := HP.out.drew
  have BM : Hid (Below w.heap.size w (wa3.setCell ⟨g1, c', none⟩ (.int .u32 (xs.toNat : Int))).drew) := (B3.out.setCell hg1 _).drew
  have ZM : Hid (RowAt (wa3.setCell ⟨g1, c', none⟩ (.int .u32 (xs.toNat : Int))).drew g2 23 (wordsC zeroW)) := (Z3.out.far (by show g2 ≠ g1; exact HNE.out) _).drew
  clear HP R3 B3 Z3
  generalize (wa3.setCell ⟨g1, c', none⟩ (.int .u32 (xs.toNat : Int))).drew = wm at RM BM ZM ⊢
  have c3 := wordsC_cell RM.out b' (by rw [LM.out]; omega)
  have c4 := wordsC_cell RM.out c' (by rw [LM.out]; omega)
  have hfz := RM.out.frozen b'
  obtain ⟨z, hz⟩ : ∃ z, z = v7.getD b' 0 ^^^ v7.getD c' 0 := ⟨_, rfl⟩
  have hxor : bits .xor .u32 ((v7.getD b' 0).toNat : Int) ((v7.getD c' 0).toNat : Int) = (z.toNat : Int) := by rw [xor32, hz]
  have HX := Lib.hid hxor
  have hput := fun n => (RM.out.drewN n).put b' (.int .u32 ((rotl z 7).toNat : Int))
  obtain ⟨v8, hvo⟩ : ∃ v8, v8 = stirW v6 c' d' b' 7 := ⟨_, rfl⟩
  have hfin : v7.set b' (rotl z 7) = v8 := by rw [hvo, HST.out, hz]
  simp only [wordsC_put, hfin] at hput
  have HP := Lib.hid hput
  have HVO3 := Lib.hid hvo
  have L4 : Hid (v8.length = 16) := by show _ = _; rw [hvo, stirW_length, L3.out]
  clear hput hfin hz hvo HST hxor
  generalize v7.getD b' 0 = y1 at c3 HX
  generalize v7.getD c' 0 = y2 at c4 HX
  refine plain_region (S := fun W' => ∃ n, W' = wm.drewN n) (fin := fun j => j == 10) (by kernel_rfl) ?_
  have hS : ∃ n, wm.drew = wm.drewN n := ⟨1, rfl⟩
  change walkS _ _ _ _ _ _ 11 _ _ _
  refine walkS_take (i := 0) (oi := ⟨some 85, _, _, _, _, _⟩) (v := .int .i64 (b' : Int)) rfl (by kernel_rfl) (by kernel_rfl) (fun _ _ _ h => h) _ _ _ _ (by kernel_rfl) (by kernel_rfl) (Or.inl ⟨by rfl, fun w' hS' => (by clear hS hS'; go_simp)⟩) hS ?_
  simp only [Act.put, List.setIfInBounds_toArray, List.set_cons_zero, List.set_cons_succ]
  refine walkS_take (i := 1) (oi := ⟨some 86, _, _, _, _, _⟩) (v := .int .i64 (b' : Int)) rfl (by kernel_rfl) (by kernel_rfl) (fun _ _ _ h => h) _ _ _ _ (by kernel_rfl) (by kernel_rfl) (Or.inl ⟨by rfl, fun w' hS' => (by clear hS hS'; go_simp)⟩) hS ?_
  simp only [Act.put, List.setIfInBounds_toArray, List.set_cons_zero, List.set_cons_succ]
  refine walkS_take (i := 2) (oi := ⟨some 87, _, _, _, _, _⟩) (v := .pointer (some ⟨g1, b', none⟩)) rfl (by kernel_rfl) (by kernel_rfl) (fun _ _ _ h => h) _ _ _ _ (by kernel_rfl) (by kernel_rfl) (Or.inl ⟨by rfl, fun w' hS' => (by clear hS hS'; go_simp)⟩) hS ?_
  simp only [Act.put, List.setIfInBounds_toArray, List.set_cons_zero, List.set_cons_succ]
  refine walkS_take (i := 3) (oi := ⟨some 88, _, _, _, _, _⟩) (v := .int .u32 (y1.toNat : Int)) rfl (by kernel_rfl) (by kernel_rfl) (fun _ _ _ h => h) _ _ _ _ (by kernel_rfl) (by kernel_rfl) (Or.inl ⟨by rfl, fun w' hS' => (by obtain ⟨n, rfl⟩ := hS'; have c5 : (wm.drewN n).cell? ⟨g1, b', none⟩ = some (.int .u32 (y1.toNat : Int)) := c3; clear hS; go_simp)⟩) hS ?_
  simp only [Act.put, List.setIfInBounds_toArray, List.set_cons_zero, List.set_cons_succ]
  refine walkS_take (i := 4) (oi := ⟨some 89, _, _, _, _, _⟩) (v := .int .i64 (c' : Int)) rfl (by kernel_rfl) (by kernel_rfl) (fun _ _ _ h => h) _ _ _ _ (by kernel_rfl) (by kernel_rfl) (Or.inl ⟨by rfl, fun w' hS' => (by clear hS hS'; go_simp)⟩) hS ?_
  simp only [Act.put, List.setIfInBounds_toArray, List.set_cons_zero, List.set_cons_succ]
  refine walkS_take (i := 5) (oi := ⟨some 90, _, _, _, _, _⟩) (v := .pointer (some ⟨g1, c', none⟩)) rfl (by kernel_rfl) (by kernel_rfl) (fun _ _ _ h => h) _ _ _ _ (by kernel_rfl) (by kernel_rfl) (Or.inl ⟨by rfl, fun w' hS' => (by clear hS hS'; go_simp)⟩) hS ?_
  simp only [Act.put, List.setIfInBounds_toArray, List.set_cons_zero, List.set_cons_succ]
  refine walkS_take (i := 6) (oi := ⟨some 91, _, _, _, _, _⟩) (v := .int .u32 (y2.toNat : Int)) rfl (by kernel_rfl) (by kernel_rfl) (fun _ _ _ h => h) _ _ _ _ (by kernel_rfl) (by kernel_rfl) (Or.inl ⟨by rfl, fun w' hS' => (by obtain ⟨n, rfl⟩ := hS'; have c5 : (wm.drewN n).cell? ⟨g1, c', none⟩ = some (.int .u32 (y2.toNat : Int)) := c4; clear hS; go_simp)⟩) hS ?_
  simp only [Act.put, List.setIfInBounds_toArray, List.set_cons_zero, List.set_cons_succ]
  refine walkS_take (i := 7) (oi := ⟨some 92, _, _, _, _, _⟩) (v := .int .u32 (z.toNat : Int)) rfl (by kernel_rfl) (by kernel_rfl) (fun _ _ _ h => h) _ _ _ _ (by kernel_rfl) (by kernel_rfl) (Or.inl ⟨by rfl, fun w' hS' => (by have hx := HX.out; clear hS hS'; go_simp)⟩) hS ?_
  simp only [Act.put, List.setIfInBounds_toArray, List.set_cons_zero, List.set_cons_succ]
  refine walkS_only (i := 8) (o := ⟨some 93, _, _, _, _, _⟩) (by kernel_rfl) rfl rfl fun K hK => ?_
  clear hS
  go_simp
  refine (left_any _ z 7 (by omega) (by omega)).mono ?_
  rintro e w5 ⟨rfl, m, rfl⟩
  have hS : ∃ n, wm.drew.drewN m = wm.drewN n := ⟨1 + m, World.drewN_drewN wm 1 m⟩
  refine hK _ _ (.inr hS) ?_
  clear hK K
  refine walkS_take (i := 9) (oi := ⟨some 94, _, _, _, _, _⟩) (v := .pointer (some ⟨g1, b', none⟩)) rfl (by kernel_rfl) (by kernel_rfl) (fun _ _ _ h => h) _ _ _ _ (by kernel_rfl) (by kernel_rfl) (Or.inl ⟨by rfl, fun w' hS' => (by clear hS hS'; go_simp)⟩) hS ?_
  simp only [Act.put, List.setIfInBounds_toArray, List.set_cons_zero, List.set_cons_succ]
  refine walkS_only (i := 10) (o := ⟨none, _, _, _, _, _⟩) (by kernel_rfl) rfl rfl fun K hK => ?_
  obtain ⟨m2, hm2⟩ := hS
  rw [hm2]
  clear hm2
  have c5 : (wm.drewN m2).cell? ⟨g1, b', none⟩ = some (.int .u32 (y1.toNat : Int)) := c3
  have f5 : (wm.drewN m2).frozen? ⟨g1, b', none⟩ = false := hfz
  clear c3 c4 hfz
  go_simp
  refine hK _ _ (.inl rfl) ?_
  clear hK K c5 f5
  refine walkS_done (by kernel_rfl) ?_ _
  have R4 : Hid (RowAt ((wm.drewN m2).setCell ⟨g1, b', none⟩ (.int .u32 ((rotl z 7).toNat : Int))) g1 23 (wordsC v8)) := HP.out m2
  have B4 : Hid (Below w.heap.size w ((wm.drewN m2).setCell ⟨g1, b', none⟩ (.int .u32 ((rotl z 7).toNat : Int)))) := (below_drewN BM.out m2).setCell hg1 _
  have Z4 : Hid (RowAt ((wm.drewN m2).setCell ⟨g1, b', none⟩ (.int .u32 ((rotl z 7).toNat : Int))) g2 23 (wordsC zeroW)) := (ZM.out.drewN m2).far (by show g2 ≠ g1; exact HNE.out) _
  clear HP BM RM ZM LM L3 HX
  generalize (wm.drewN m2).setCell ⟨g1, b', none⟩ (.int .u32 ((rotl z 7).toNat : Int)) = wa4 at R4 B4 Z4 ⊢
  clear wa3 wm v7
  have hfv : fin = v8 := by rw [HF.out, HVO3.out, HVO2.out, HVO1.out, HVO0.out, HV0.out]; rfl
  have R5 : Hid (RowAt wa4 g1 23 (wordsC fin)) := by rw [hfv]; exact R4
  clear hfv R4
  go_wp2_with (first | (with_reducible refine wpList_load_row (o := ⟨some 95, _, _, _, _, _⟩) rfl 23 (.tmp 5) rfl g1 (by with_unfolding_all rfl) 23 (wordsC fin) (0, 0) (.array 16 22) (by with_unfolding_all exact R5.out) Tryd.underlying23 rfl (Tryd.sizeW16 fin LF.out) ?_) | ((with_reducible refine wpList_store_row (o := ⟨none, _, _, _, _, _⟩) rfl 23 (.tmp 10) (.tmp 95) rfl g2 23 _ (wordsC fin) (by with_unfolding_all rfl) (by with_unfolding_all rfl) Z4.out (wordsC_same zeroW_length LF.out) (Tryd.sizeW16 fin LF.out) (wordsC_one fin) ?_); intro w9 p9))
  refine bodyPost_ret (results_cell_row rfl _ _ g2 23 (wordsC fin) (0, 0) (.array 16 22) rfl p9.row Tryd.underlying23 rfl (Tryd.sizeW16 fin LF.out)) rfl ⟨rfl, ?_⟩
  exact p9.below B4.out B4.out.size hg2
end Go.Proofs.YtplaoofclgpeeaaDoor
