/-
  Texts that belong together, merged: StreamA, C, J, StreamB. Conditions: as each theorem names them.
-/
import Derived.Test.YtjdbjgaoeijmfaaDoorChecked
import Derived.Test.YtjdbjgaoeijmfaaDoorQSbaAA
import Derived.Test.YtjdbjgaoeijmfaaDoorQSbaAB
import Derived.Deep.RegionLaw
section
namespace Go.Proofs.YtjdbjgaoeijmfaaDoor
open Go.RowKit
set_option linter.unusedVariables false
set_option maxRecDepth 20000

/-- Of a number its lowest four bits. -/
def low4 (a : Int) : Nat := (a % 16).toNat
theorem low4_lt (a : Int) : low4 a < 16 := by unfold low4; omega
theorem low4_nat (n : Nat) (h : n < 16) : low4 (n : Int) = n := by unfold low4; omega
theorem and15 (a : Int) : bits .and .i64 a 15 = (low4 a : Int) := by
  show IntKind.i64.wrap ((BitVec.ofInt 64 a &&& BitVec.ofInt 64 15).toNat : Int) = _
  rw [BitVec.toNat_and, show (BitVec.ofInt 64 15).toNat = 15 from rfl, nat_mask4, BitVec.toNat_ofInt, IntWalk.i64_in _ (by omega)]
  unfold low4
  omega

theorem and31 (n : Nat) (h2 : n ≤ 31) : bits .and .u64 (n : Int) 31 = (n : Int) := by
  have := u64_and_nat n 31 (by omega) (by omega)
  rw [show ((31 : Nat) : Int) = 31 from rfl] at this
  rw [this, nat_mask5, Nat.mod_eq_of_lt (by omega)]
theorem rotl_int (x : UInt32) (n m : Nat) (hm : m + n = 32) : bits .or .u32 ((x.toNat : Int) * 2 ^ n % 4294967296) ((x.toNat : Int) / 2 ^ m) = ((rotl x n).toNat : Int) := by
  have e1 : (x.toNat : Int) * 2 ^ n % 4294967296 = ((x.toNat * 2 ^ n % 4294967296 : Nat) : Int) := by simp
  have e2 : (x.toNat : Int) / 2 ^ m = ((x.toNat / 2 ^ m : Nat) : Int) := by simp
  rw [e1, e2, u32_or_nat _ _ (Nat.mod_lt _ (by omega)) (div_lt32 x m), rotl_toNat, show 32 - n = m by omega]

theorem RotL_any (w : World) (x : UInt32) (n : Nat) (h1 : 1 ≤ n) (h2 : n ≤ 31) :
    Calls Tryd.prog 86 #[.int .u32 (x.toNat : Int), .int .i64 (n : Int)] w fun e w' => e = .returned (.int .u32 ((rotl x n).toNat : Int)) ∧ w = w' := by
  have hx := x.toNat_lt
  obtain ⟨m, hm⟩ : ∃ m, m + n = 32 := ⟨32 - n, by omega⟩
  have hs := and31 n h2
  have hs2 : IntKind.u64.wrap (32 - (n : Int)) = (m : Int) := by rw [IntKind.wrap_u64]; omega
  go_enter Tryd.func86, Tryd.ntmps86
  go_wp2
  go_ret
  exact ⟨ret_int (rotl_int x n m hm), rfl⟩

def zeroW : List UInt32 := List.replicate 16 0
theorem zeroW_length : zeroW.length = 16 := by simp [zeroW]
theorem Tryd.zeroWs : (Tryd.prog.info? 103).map (·.zero) = some (some (.agg (wordsC zeroW))) := by kernel_rfl
theorem Tryd.sizeWs (l : List UInt32) (h : l.length = 16) : (Tryd.prog.info? 103).map (·.size) = some (wordsC l).size := by
  rw [wordsC_size, h]
  exact (by kernel_rfl : (Tryd.prog.info? 103).map (·.size) = some 16)
theorem wordsC_same {a b : List UInt32} {n : Nat} (ha : a.length = n) (hb : b.length = n) : (wordsC a).size = (wordsC b).size := by rw [wordsC_size, wordsC_size, ha, hb]

set_option maxHeartbeats 1000000 in
theorem stir_any (w : World) (ws : List UInt32) (hl : ws.length = 16) (s p t n : Nat) (hs : s < 16) (hp : p < 16) (ht : t < 16) (h1 : 1 ≤ n) (h2 : n ≤ 31) :
    Calls Tryd.prog 75 #[.agg (wordsC ws), .int .i64 (s : Int), .int .i64 (p : Int), .int .i64 (t : Int), .int .i64 (n : Int)] w (RetV w (.agg (wordsC (stirW ws s p t n)))) := by
  obtain ⟨fin, hfin⟩ : ∃ fin, fin = stirW ws s p t n := ⟨_, rfl⟩
  have hfl : fin.length = 16 := by rw [hfin, stirW_length, hl]
  rw [← hfin]
  have HF := Lib.hid hfin
  have HFL := Lib.hid hfl
  have HL := Lib.hid hl
  clear hfin hl hfl
  go_enter Tryd.func75, Tryd.ntmps75
  go_wp2_with (first | ((with_reducible refine wpList_box_row (o := ⟨some 5, _, _, _, _, _⟩) rfl 103 (.tmp 0) rfl (wordsC ws) (by with_unfolding_all rfl) ?_); intro g1 w1 n1) | ((with_reducible refine wpList_alloc_row (o := ⟨some 10, _, _, _, _, _⟩) rfl 103 rfl (wordsC zeroW) Tryd.zeroWs ?_); intro g2 w2 n2))
  have hr1 : RowAt w2 g1 103 (wordsC ws) := n1.row.kept n2.below
  have c1 := wordsC_cell hr1 s (by rw [HL.out]; omega)
  have c2 := wordsC_cell hr1 p (by rw [HL.out]; omega)
  have hfz := hr1.frozen s
  obtain ⟨xs, hxs⟩ : ∃ xs, xs = ws.getD s 0 + ws.getD p 0 := ⟨_, rfl⟩
  have hsum : IntKind.u32.wrap (((ws.getD s 0).toNat : Int) + ((ws.getD p 0).toNat : Int)) = (xs.toNat : Int) := by rw [add32, hxs]
  have hput := hr1.put s (.int .u32 (xs.toNat : Int))
  rw [wordsC_put] at hput
  obtain ⟨vs, hvs⟩ : ∃ vs, vs = ws.set s xs := ⟨_, rfl⟩
  rw [← hvs] at hput
  have HVL : Hid (vs.length = 16) := by show _ = _; rw [hvs, List.length_set, HL.out]
  have HP := Lib.hid hput
  have HVS := Lib.hid hvs
  have HF2 : Hid (fin = vs.set t (rotl (vs.getD t 0 ^^^ vs.getD s 0) n)) := by
    show _ = _
    rw [HF.out, hvs, hxs]
    rfl
  have hg1 : w.heap.size ≤ g1 := Nat.le_of_eq n1.spot.symm
  have hg2 : w.heap.size ≤ g2 := by rw [n2.spot]; exact n1.below.size
  have hne : g2 ≠ g1 := by have := n2.spot; have := n1.row.lt; omega
  have HB : Hid (Below w.heap.size w w2) := below_size n1.below n2.below
  have HR2 : Hid (RowAt w2 g2 _ _) := n2.row
  generalize ws.getD s 0 = x1 at c1 hsum
  generalize ws.getD p 0 = x2 at c2 hsum
  have hq1 : (s : Int) < 16 := by omega
  have hq2 : (p : Int) < 16 := by omega
  have hq3 : (t : Int) < 16 := by omega
  have HNE := Lib.hid hne
  clear hput hvs hxs hr1 n1 n2 hne HF HVS
  go_still_tail 8, (by kernel_rfl)
  change wpList _ _ _ _ _ w2.drew
  have hcell : w2.drew.cell? ⟨g1, s, none⟩ = some (.int .u32 (x1.toNat : Int)) := c1
  have hfz2 : w2.drew.frozen? ⟨g1, s, none⟩ = false := hfz
  clear c1 c2 hfz hsum
  go_wp2_with fail
  clear hcell hfz2
  have R3 : Hid (RowAt (w2.setCell ⟨g1, s, none⟩ (.int .u32 (xs.toNat : Int))).drew g1 103 (wordsC vs)) := HP.out.drew
  have B3 : Hid (Below w.heap.size w (w2.setCell ⟨g1, s, none⟩ (.int .u32 (xs.toNat : Int))).drew) := (HB.out.setCell hg1 _).drew
  have Z3 : Hid (RowAt (w2.setCell ⟨g1, s, none⟩ (.int .u32 (xs.toNat : Int))).drew g2 103 (wordsC zeroW)) := (HR2.out.far (by show g2 ≠ g1; exact HNE.out) _).drew
  clear HP HB HR2
  generalize (w2.setCell ⟨g1, s, none⟩ (.int .u32 (xs.toNat : Int))).drew = w3 at R3 B3 Z3 ⊢
  have c3 := wordsC_cell R3.out t (by rw [HVL.out]; omega)
  have c4 := wordsC_cell R3.out s (by rw [HVL.out]; omega)
  have hfz := R3.out.frozen t
  obtain ⟨z, hz⟩ : ∃ z, z = vs.getD t 0 ^^^ vs.getD s 0 := ⟨_, rfl⟩
  have hxor : bits .xor .u32 ((vs.getD t 0).toNat : Int) ((vs.getD s 0).toNat : Int) = (z.toNat : Int) := by rw [xor32, hz]
  have hput := R3.out.put t (.int .u32 ((rotl z n).toNat : Int))
  rw [wordsC_put] at hput
  have hfin : vs.set t (rotl z n) = fin := by
    rw [HF2.out, hz]
  rw [hfin] at hput
  have HP := Lib.hid hput
  clear hput hfin hz
  generalize vs.getD t 0 = y1 at c3 hxor
  generalize vs.getD s 0 = y2 at c4 hxor
  go_still_tail 11, (by kernel_rfl)
  still_call ((RotL_any _ z n h1 h2).mono fun _ _ h => ⟨h.1, h.2.symm⟩)
  repeat still_step
  refine wpStill_nil ?_
  change wpList _ _ _ _ _ w3.drew
  have hcell : w3.drew.cell? ⟨g1, t, none⟩ = some (.int .u32 (y1.toNat : Int)) := c3
  have hfz2 : w3.drew.frozen? ⟨g1, t, none⟩ = false := hfz
  clear c3 c4 hxor hfz
  have R4 : Hid (RowAt (w3.setCell ⟨g1, t, none⟩ (.int .u32 ((rotl z n).toNat : Int))).drew g1 103 (wordsC fin)) := HP.out.drew
  have B4 : Hid (Below w.heap.size w (w3.setCell ⟨g1, t, none⟩ (.int .u32 ((rotl z n).toNat : Int))).drew) := (B3.out.setCell hg1 _).drew
  have Z4 : Hid (RowAt (w3.setCell ⟨g1, t, none⟩ (.int .u32 ((rotl z n).toNat : Int))).drew g2 103 (wordsC zeroW)) := (Z3.out.far (by show g2 ≠ g1; exact HNE.out) _).drew
  clear HP B3 R3 Z3
  go_wp2_with (first | (with_reducible refine wpList_load_row (o := ⟨some 30, _, _, _, _, _⟩) rfl 103 (.tmp 5) rfl g1 (by with_unfolding_all rfl) 103 (wordsC fin) (0, 0) (.array 16 48) (by with_unfolding_all exact R4.out) Tryd.underlying103 rfl (Tryd.sizeWs fin HFL.out) ?_) | ((with_reducible refine wpList_store_row (o := ⟨none, _, _, _, _, _⟩) rfl 103 (.tmp 10) (.tmp 30) rfl g2 103 _ (wordsC fin) (by with_unfolding_all rfl) (by with_unfolding_all rfl) Z4.out (wordsC_same zeroW_length HFL.out) (Tryd.sizeWs fin HFL.out) (wordsC_one fin) ?_); intro w5 p5))
  refine bodyPost_ret (results_cell_row rfl _ _ g2 103 (wordsC fin) (0, 0) (.array 16 48) rfl p5.row Tryd.underlying103 rfl (Tryd.sizeWs fin HFL.out)) rfl ⟨rfl, ?_⟩
  exact p5.below B4.out B4.out.size hg2

theorem Row_lt {w w0 : World} {g : Nat} {t : TypeId} {cs : Array Value} (h : NewRow w g t cs w0) : g < w0.heap.size := h.row.lt

set_option maxHeartbeats 1000000 in
theorem Quarter_any (w : World) (ws : List UInt32) (hl : ws.length = 16) (a b c d : Int) :
    Calls Tryd.prog 62 #[.agg (wordsC ws), .int .i64 a, .int .i64 b, .int .i64 c, .int .i64 d] w (RetV w (.agg (wordsC (quarterW ws (low4 a) (low4 b) (low4 c) (low4 d))))) := by
  obtain ⟨x1, hx1⟩ : ∃ x1, x1 = stirW ws (low4 a) (low4 b) (low4 d) 16 := ⟨_, rfl⟩
  obtain ⟨x2, hx2⟩ : ∃ x2, x2 = stirW x1 (low4 c) (low4 d) (low4 b) 12 := ⟨_, rfl⟩
  obtain ⟨x3, hx3⟩ : ∃ x3, x3 = stirW x2 (low4 a) (low4 b) (low4 d) 8 := ⟨_, rfl⟩
  obtain ⟨x4, hx4⟩ : ∃ x4, x4 = stirW x3 (low4 c) (low4 d) (low4 b) 7 := ⟨_, rfl⟩
  have hfin : quarterW ws (low4 a) (low4 b) (low4 c) (low4 d) = x4 := by rw [hx4, hx3, hx2, hx1]; rfl
  rw [hfin]
  have L0 := Lib.hid hl
  have L1 : Hid (x1.length = 16) := by show _ = _; rw [hx1, stirW_length, hl]
  have L2 : Hid (x2.length = 16) := by show _ = _; rw [hx2, stirW_length, L1.out]
  have L3 : Hid (x3.length = 16) := by show _ = _; rw [hx3, stirW_length, L2.out]
  have L4 : Hid (x4.length = 16) := by show _ = _; rw [hx4, stirW_length, L3.out]
  have ha := and15 a
  have hb := and15 b
  have hc := and15 c
  have hd := and15 d
  have la := low4_lt a
  have lb := low4_lt b
  have lc := low4_lt c
  have ld := low4_lt d
  generalize low4 a = a' at *
  generalize low4 b = b' at *
  generalize low4 c = c' at *
  generalize low4 d = d' at *
  have s1 := fun x => stir_any x ws L0.out a' b' d' 16 la lb ld (by omega) (by omega)
  rw [← hx1] at s1
  have s2 := fun x => stir_any x x1 L1.out c' d' b' 12 lc ld lb (by omega) (by omega)
  rw [← hx2] at s2
  have s3 := fun x => stir_any x x2 L2.out a' b' d' 8 la lb ld (by omega) (by omega)
  rw [← hx3] at s3
  have s4 := fun x => stir_any x x3 L3.out c' d' b' 7 lc ld lb (by omega) (by omega)
  rw [← hx4] at s4
  have S1 := Lib.hid s1
  have S2 := Lib.hid s2
  have S3 := Lib.hid s3
  have S4 := Lib.hid s4
  clear s1 s2 s3 s4 hfin hx1 hx2 hx3 hx4 hl
  go_enter Tryd.func62, Tryd.ntmps62
  go_wp2_with (first
    | ((with_reducible refine wpList_box_row (o := ⟨some 5, _, _, _, _, _⟩) rfl 103 (.tmp 0) rfl (wordsC ws) (by with_unfolding_all rfl) ?_); intro g1 w1 n1)
    | ((with_reducible refine wpList_alloc_row (o := ⟨some 10, _, _, _, _, _⟩) rfl 103 rfl (wordsC zeroW) Tryd.zeroWs ?_); intro g2 w2 n2)
    | (with_reducible refine wpList_load_row (o := ⟨some 19, _, _, _, _, _⟩) rfl 103 (.tmp 5) rfl g1 (by with_unfolding_all rfl) 103 (wordsC ws) (0, 0) (.array 16 48) (by with_unfolding_all exact n1.row.kept n2.below) Tryd.underlying103 rfl (Tryd.sizeWs ws L0.out) ?_))
  refine (S1.out _).mono ?_
  rintro e w3 ⟨rfl, b3⟩
  have hg1 : w.heap.size ≤ g1 := Nat.le_of_eq n1.spot.symm
  have hg2 : w.heap.size ≤ g2 := by rw [n2.spot]; exact n1.below.size
  have hne : g2 ≠ g1 := by have := n2.spot; have := n1.row.lt; omega
  have HNE := Lib.hid hne
  have B3 : Hid (Below w.heap.size w w3) := below_size (below_size n1.below n2.below) b3
  have R3 : Hid (RowAt w3 g1 103 (wordsC ws)) := (n1.row.kept n2.below).kept b3
  have Z3 : Hid (RowAt w3 g2 103 (wordsC zeroW)) := n2.row.kept b3
  clear n1 n2 b3 hne ha hb hc hd
  go_wp2_with (first
    | ((with_reducible refine wpList_store_row (o := ⟨none, _, _, _, _, _⟩) rfl 103 (.tmp 5) (.tmp 23) rfl g1 103 _ (wordsC x1) (by with_unfolding_all rfl) (by with_unfolding_all rfl) R3.out (wordsC_same L0.out L1.out) (Tryd.sizeWs x1 L1.out) (wordsC_one x1) ?_); intro w4 p4)
    | (with_reducible refine wpList_load_row (o := ⟨some 24, _, _, _, _, _⟩) rfl 103 (.tmp 5) rfl g1 (by with_unfolding_all rfl) 103 (wordsC x1) (0, 0) (.array 16 48) (by with_unfolding_all exact p4.row) Tryd.underlying103 rfl (Tryd.sizeWs x1 L1.out) ?_))
  refine (S2.out _).mono ?_
  rintro e w5 ⟨rfl, b5⟩
  have B5 : Hid (Below w.heap.size w w5) := below_size (p4.below B3.out B3.out.size hg1) b5
  have R5 : Hid (RowAt w5 g1 103 (wordsC x1)) := p4.row.kept b5
  have Z5 : Hid (RowAt w5 g2 103 (wordsC zeroW)) := (Z3.out.grown p4.grown (by intro h; injection h with h; exact HNE.out h)).kept b5
  clear p4 b5 B3 R3 Z3
  go_wp2_with (first
    | ((with_reducible refine wpList_store_row (o := ⟨none, _, _, _, _, _⟩) rfl 103 (.tmp 5) (.tmp 28) rfl g1 103 _ (wordsC x2) (by with_unfolding_all rfl) (by with_unfolding_all rfl) R5.out (wordsC_same L1.out L2.out) (Tryd.sizeWs x2 L2.out) (wordsC_one x2) ?_); intro w6 p6)
    | (with_reducible refine wpList_load_row (o := ⟨some 29, _, _, _, _, _⟩) rfl 103 (.tmp 5) rfl g1 (by with_unfolding_all rfl) 103 (wordsC x2) (0, 0) (.array 16 48) (by with_unfolding_all exact p6.row) Tryd.underlying103 rfl (Tryd.sizeWs x2 L2.out) ?_))
  refine (S3.out _).mono ?_
  rintro e w7 ⟨rfl, b7⟩
  have B7 : Hid (Below w.heap.size w w7) := below_size (p6.below B5.out B5.out.size hg1) b7
  have R7 : Hid (RowAt w7 g1 103 (wordsC x2)) := p6.row.kept b7
  have Z7 : Hid (RowAt w7 g2 103 (wordsC zeroW)) := (Z5.out.grown p6.grown (by intro h; injection h with h; exact HNE.out h)).kept b7
  clear p6 b7 B5 R5 Z5
  go_wp2_with (first
    | ((with_reducible refine wpList_store_row (o := ⟨none, _, _, _, _, _⟩) rfl 103 (.tmp 5) (.tmp 33) rfl g1 103 _ (wordsC x3) (by with_unfolding_all rfl) (by with_unfolding_all rfl) R7.out (wordsC_same L2.out L3.out) (Tryd.sizeWs x3 L3.out) (wordsC_one x3) ?_); intro w8 p8)
    | (with_reducible refine wpList_load_row (o := ⟨some 34, _, _, _, _, _⟩) rfl 103 (.tmp 5) rfl g1 (by with_unfolding_all rfl) 103 (wordsC x3) (0, 0) (.array 16 48) (by with_unfolding_all exact p8.row) Tryd.underlying103 rfl (Tryd.sizeWs x3 L3.out) ?_))
  refine (S4.out _).mono ?_
  rintro e w9 ⟨rfl, b9⟩
  have B9 : Hid (Below w.heap.size w w9) := below_size (p8.below B7.out B7.out.size hg1) b9
  have Z9 : Hid (RowAt w9 g2 103 (wordsC zeroW)) := (Z7.out.grown p8.grown (by intro h; injection h with h; exact HNE.out h)).kept b9
  clear p8 b9 B7 R7 Z7
  go_wp2_with ((with_reducible refine wpList_store_row (o := ⟨none, _, _, _, _, _⟩) rfl 103 (.tmp 10) (.tmp 38) rfl g2 103 _ (wordsC x4) (by with_unfolding_all rfl) (by with_unfolding_all rfl) Z9.out (wordsC_same zeroW_length L4.out) (Tryd.sizeWs x4 L4.out) (wordsC_one x4) ?_); intro w10 p10)
  refine bodyPost_ret (results_cell_row rfl _ _ g2 103 (wordsC x4) (0, 0) (.array 16 48) rfl p10.row Tryd.underlying103 rfl (Tryd.sizeWs x4 L4.out)) rfl ⟨rfl, ?_⟩
  exact p10.below B9.out B9.out.size hg2
end Go.Proofs.YtjdbjgaoeijmfaaDoor
end
section
namespace Go.Proofs.YtjdbjgaoeijmfaaDoor
open Go.RowKit
set_option linter.unusedVariables false
set_option maxRecDepth 20000

theorem Low_out (w : World) (n : Nat) (s : Int) (h : s < 1 ∨ 8 < s) :
    Calls Tryd.prog 76 #[.int .u64 (n : Int), .int .i64 s] w (RetBs w []) := by
  go_enter Tryd.func76, Tryd.ntmps76
  go_wp2_with (go_at_call 44; refine (fits_no _ _ h).mono ?_; rintro e w' ⟨rfl, rfl⟩)
  go_ret
  exact ⟨_, rfl, Bs.nil _, Below.refl _ _⟩

theorem Low_any (w : World) (n : Nat) (hn : n < 18446744073709551616) (s : Int) :
    Calls Tryd.prog 76 #[.int .u64 (n : Int), .int .i64 s] w (RetBs w (lowI n s)) := by
  by_cases h : s < 1 ∨ 8 < s
  · rw [lowI_out n s h]
    exact Low_out w n s h
  · obtain ⟨t, rfl⟩ := Int.eq_ofNat_of_zero_le (a := s) (by omega)
    rw [lowI_in n t (by omega) (by omega)]
    exact Low_in w n t hn (by omega) (by omega)

set_option maxHeartbeats 400000 in
theorem High_in (w : World) (n s : Nat) (hn : n < 18446744073709551616) (hs1 : 1 ≤ s) (hs2 : s ≤ 8) :
    Calls Tryd.prog 29 #[.int .u64 (n : Int), .int .i64 (s : Int)] w (RetBs w (lowB n s).reverse) := by
  obtain ⟨i0, hi, hz0, hz1, hz2⟩ := info_parts Tryd.infoB
  have hlen : (lowB n s).reverse.length = s := by rw [List.length_reverse, lowB_length]
  have HL := Lib.hid hlen
  clear hlen
  go_enter Tryd.func29, Tryd.ntmps29
  go_wp2_with (first
    | (go_at_call 44; refine (fits_yes _ _ (by omega) (by omega)).mono ?_; rintro e w' ⟨rfl, rfl⟩)
    | (refine wpList_make_full _ rfl (.tmp 10) (.tmp 10) 24 rfl w.heap.size 5 i0 (.int .u8 0) 1 Tryd.underlying24 hi hz0 hz1 .i64 .i64 _ _ s rfl rfl rfl rfl (by rw [hz2]; omega) (by unfold maxLen; omega) (Nat.le_refl _) ?_; intro w1 hown hgrow))
  rw [made_zeros] at hown
  have hown0 : w1.ownsRow w.heap.size 5 1 (.slice (some ⟨w.heap.size, 0, none⟩) s s) s (cellsB (partlyR (lowB n s).reverse 0)) := by
    rw [partlyR_zero, HL.out]; exact hown
  have hbel : Below w.heap.size w w1 := (Below.refl _ _).grown hgrow (Nat.le_refl _) (fun k h => by cases h)
  clear hown hgrow
  go_loopw [13] (fun i wr => ∃ k : Nat, k ≤ s ∧ i = .int .i64 k ∧ wr.ownsRow w.heap.size 5 1 (.slice (some ⟨w.heap.size, 0, none⟩) s s) s (cellsB (partlyR (lowB n s).reverse k)) ∧ Below w.heap.size w wr) (fun i _ => s - (intOf i).toNat)
  case atStart => exact ⟨0, Nat.zero_le _, rfl, hown0, hbel⟩
  case round =>
    obtain ⟨k, hk, rfl, hown, hb⟩ := hrel
    clear hown0 hbel
    by_cases hlt : k < s
    · obtain ⟨old, hcell⟩ := own_some hown (s - 1 - k) (by omega)
      have hfz := hown.frozenAt (s - 1 - k)
      have hput := own_put hown (s - 1 - k) (byteN n k)
      have hstep := partlyR_step (lowB n s).reverse k (by rw [HL.out]; omega)
      have hget : (lowB n s).reverse[(lowB n s).reverse.length - 1 - k]'(by rw [HL.out]; omega) = byteN n k := by
        rw [List.getElem_reverse]
        have e : (lowB n s).length - 1 - ((lowB n s).reverse.length - 1 - k) = k := by rw [HL.out, lowB_length]; omega
        simp only [e]
        simp [lowB]
      rw [hget, HL.out] at hstep
      rw [hstep] at hput
      have HP := Lib.hid hput
      have HG := Lib.hid hown
      have HB := Lib.hid hb
      clear hput hown hget hb hstep
      go_wp2_with (go_at_call 45; refine (byteAt_any _ n k hn (by omega)).mono ?_; rintro e w' ⟨rfl, rfl⟩)
      go_roundw
      case rel => exact ⟨k + 1, by omega, by go_num, HP.out, HB.out.setCell (by simp) _⟩
      case measure => simp [intOf]; omega
    · have hks : k = s := by omega
      subst hks
      have hown2 : wr.ownsRow w.heap.size 5 1 (.slice (some ⟨w.heap.size, 0, none⟩) k k) k (cellsB (lowB n k).reverse) := by
        have := partlyR_all (lowB n k).reverse; rw [HL.out] at this; rwa [this] at hown
      have HO := Lib.hid hown2
      have HB := Lib.hid hb
      clear hown2 hown hb
      go_wp2
      go_ret
      exact ⟨_, rfl, Bs.of_own HO.out, HB.out⟩

theorem High_out (w : World) (n : Nat) (s : Int) (h : s < 1 ∨ 8 < s) :
    Calls Tryd.prog 29 #[.int .u64 (n : Int), .int .i64 s] w (RetBs w []) := by
  go_enter Tryd.func29, Tryd.ntmps29
  go_wp2_with (go_at_call 44; refine (fits_no _ _ h).mono ?_; rintro e w' ⟨rfl, rfl⟩)
  go_ret
  exact ⟨_, rfl, Bs.nil _, Below.refl _ _⟩

theorem High_any (w : World) (n : Nat) (hn : n < 18446744073709551616) (s : Int) :
    Calls Tryd.prog 29 #[.int .u64 (n : Int), .int .i64 s] w (RetBs w (highI n s)) := by
  unfold highI
  by_cases h : s < 1 ∨ 8 < s
  · rw [lowI_out n s h]
    exact High_out w n s h
  · obtain ⟨t, rfl⟩ := Int.eq_ofNat_of_zero_le (a := s) (by omega)
    rw [lowI_in n t (by omega) (by omega)]
    exact High_in w n t hn (by omega) (by omega)

set_option maxHeartbeats 400000 in
theorem refLow_any (w : World) (n : Nat) (hn : n < 18446744073709551616) (s : Int) (hs : -9223372036854775808 ≤ s ∧ s ≤ 9223372036854775807) :
    Calls Tryd.prog 49 #[.int .u64 (n : Int), .int .i64 s] w (RetBs w (lowI n s)) := by
  obtain ⟨i0, hi, hz0, hz1, hz2⟩ := info_parts Tryd.infoB
  by_cases h8 : 8 < s
  · rw [lowI_out n s (by omega)]
    go_enter Tryd.func49, Tryd.ntmps49
    go_wp2
    go_ret
    exact ⟨_, rfl, Bs.nil _, Below.refl _ _⟩
  · have hlo : lowI n s = lowB n s.toNat := by
      by_cases h : s < 1
      · rw [lowI_out n s (by omega), show s.toNat = 0 by omega, lowB_zero]
      · unfold lowI; rw [if_pos ⟨by omega, by omega⟩]
    rw [hlo]
    clear hlo
    go_enter Tryd.func49, Tryd.ntmps49
    go_wp2
    go_loopw [0, 5, 6] (fun m v i wr => ∃ k q : Nat, k ≤ s.toNat ∧ q = n / 256 ^ k ∧ m = .int .u64 (q : Int) ∧ i = .int .i64 k ∧ OwnB wr w.heap.size 5 v (lowB n k) ∧ Below w.heap.size w wr) (fun _ _ i _ => s.toNat - (intOf i).toNat)
    case atStart => exact ⟨0, n, Nat.zero_le _, by simp, rfl, rfl, OwnB.nil _ _ _, Below.refl _ _⟩
    case round =>
      obtain ⟨k, q, hk, hq, rfl, rfl, hown, hb⟩ := hrel
      have hqn : q < 18446744073709551616 := by rw [hq]; exact Nat.lt_of_le_of_lt (Nat.div_le_self _ _) hn
      have hbi : (q : Int) % 256 = ((byteN n k).toNat : Int) := by rw [byteN_toNat, hq]; omega
      have hqd : q / 256 = n / 256 ^ (k + 1) := by rw [hq, Nat.div_div_eq_div_mul, Nat.pow_succ]
      have HQ := Lib.hid hqd
      have HB := Lib.hid hb
      have HI := Lib.hid hbi
      have HO := Lib.hid hown
      have hsz := hb.size
      clear hq hb hbi hqd hown
      by_cases hlt : (k : Int) < s
      · go_wp2_with (at_builtin; refine wpList_appB _ rfl (.tmp 15) (.tmp 19) 24 rfl w 5 Tryd.infoB Tryd.underlying24 _ _ _ [byteN n k] rfl rfl (HO.out.alloc _) (Bs.lit1 _ _ _ _ HI.out) (by rw [lowB_length]; simp; omega) (HB.out.alloc hsz _) ?_; intro v1 w1 hown1 hb1)
        go_roundw
        case rel => exact ⟨k + 1, q / 256, by omega, HQ.out, by go_num, by go_num, by rw [lowB_succ]; exact hown1, hb1⟩
        case measure => simp [intOf]; omega
      · have hks : k = s.toNat := by omega
        subst hks
        go_wp2
        go_ret
        exact ⟨_, rfl, HO.out.bs, HB.out⟩

set_option maxHeartbeats 400000 in
theorem refHigh_any (w : World) (n : Nat) (hn : n < 18446744073709551616) (s : Int) (hs : -9223372036854775808 ≤ s ∧ s ≤ 9223372036854775807) :
    Calls Tryd.prog 33 #[.int .u64 (n : Int), .int .i64 s] w (RetBs w (highI n s)) := by
  unfold highI
  have hlen := lowI_length n s
  have hc := fun w => refLow_any w n hn s hs
  generalize lowI n s = l at hlen hc ⊢
  have HC := Lib.hid hc
  clear hc
  go_enter Tryd.func33, Tryd.ntmps33
  go_wp2_with (go_at_call 49; refine (HC.out _).mono ?_; rintro e w1 ⟨_, rfl, ⟨A, c, rfl, h1, h2, h3⟩, hb0⟩)
  have HB0 := Lib.hid hb0
  unfold maxLen at h2
  clear hb0
  go_loopw [6, 7] (fun v i wr => ∃ k : Nat, k ≤ l.length ∧ i = .int .i64 ((l.length : Int) - 1 - k) ∧ OwnB wr w1.heap.size 5 v (l.reverse.take k) ∧ Below w1.heap.size w1 wr) (fun _ i _ => (intOf i + 1).toNat)
  case atStart => exact ⟨0, Nat.zero_le _, by simp, OwnB.nil _ _ _, Below.refl _ _⟩
  case round =>
    obtain ⟨k, hk, rfl, hown, hb⟩ := hrel
    have HO := Lib.hid hown
    have HB := Lib.hid hb
    have hsz := hb.size
    clear hown hb
    by_cases hlt : k < l.length
    · obtain ⟨b0, o0, rfl, hc⟩ := h3 (by omega)
      have hcell : wr.cell? ⟨b0, o0 + (l.length - 1 - k), none⟩ = some (.int .u8 ((l[l.length - 1 - k]'(by omega)).toNat : Int)) :=
        (HB.out.cell (p := ⟨b0, o0 + (l.length - 1 - k), none⟩) (World.block_lt_of_cell? w1 _ (hc (l.length - 1 - k) (by omega)))).trans (hc (l.length - 1 - k) (by omega))
      have htk : l.reverse.take (k + 1) = l.reverse.take k ++ [l[l.length - 1 - k]'(by omega)] := by
        rw [List.take_succ_eq_append_getElem (by simpa using hlt), List.getElem_reverse]
      have HT := Lib.hid htk
      clear htk hc h3
      go_wp2_with (at_builtin; refine wpList_appB _ rfl (.tmp 18) (.tmp 23) 24 rfl w1 5 Tryd.infoB Tryd.underlying24 _ _ _ [l[l.length - 1 - k]'(by omega)] rfl rfl (HO.out.alloc _) (Bs.lit1 _ _ _ _ rfl) (by simp; omega) (HB.out.alloc hsz _) ?_; intro v2 w2 hown2 hb2)
      go_roundw
      case rel => exact ⟨k + 1, by omega, by go_num, by rw [HT.out]; exact hown2, hb2⟩
      case measure => simp [intOf]; omega
    · have hks : k = l.length := by omega
      subst hks
      have HO2 : Hid (OwnB wr w1.heap.size 5 u6 l.reverse) := by
        have := HO.out; rwa [List.take_of_length_le (by simp)] at this
      go_wp2
      go_ret
      exact ⟨_, rfl, HO2.out.bs, below_size HB0.out HB.out⟩
end Go.Proofs.YtjdbjgaoeijmfaaDoor
end
section
namespace Go.Proofs.YtjdbjgaoeijmfaaDoor
open Go.RowKit
set_option linter.unusedVariables false
set_option maxRecDepth 20000

/-- The slice value v reads as the lists ls. -/
def Bss (w : World) (v : Value) (ls : List (List UInt8)) : Prop :=
  ∃ A c, v = .slice A ls.length c ∧ ls.length ≤ c ∧ c ≤ maxLen ∧
    (0 < ls.length → ∃ b off, A = some ⟨b, off, none⟩ ∧ ∀ j (h : j < ls.length), ∃ u, w.cell? ⟨b, off + j, none⟩ = some u ∧ Bs w u ls[j])

/-- A result that is bytes in a row of the call's own. -/
def RetOwn (w : World) (t : TypeId) (l : List UInt8) (e : Ending) (w' : World) : Prop := ∃ v, e = .returned v ∧ OwnB w' w.heap.size t v l ∧ Below w.heap.size w w'
theorem Bss.keep {w w' : World} {v : Value} {ls : List (List UInt8)} (h : Bss w v ls) (hb : Below w.heap.size w w') : Bss w' v ls := by
  obtain ⟨A, c, hv, h1, h2, h3⟩ := h
  refine ⟨A, c, hv, h1, h2, fun hl => ?_⟩
  obtain ⟨b, off, hA, hc⟩ := h3 hl
  refine ⟨b, off, hA, fun j hj => ?_⟩
  obtain ⟨u, hu, hbu⟩ := hc j hj
  exact ⟨u, (hb.cell (World.block_lt_of_cell? w _ hu)).trans hu, hbu.below hb⟩

/-- A list of lists that a call's own arguments have just made. -/
theorem Bss.lit (w : World) (e : TypeId) (vs : List Value) (ls : List (List UInt8)) (hl : vs.length = ls.length) (hm : ls.length ≤ maxLen) (h : ∀ j (h1 : j < vs.length) (h2 : j < ls.length), Bs w vs[j] ls[j]) :
    Bss (w.alloc (.cells vs.toArray e)) (.slice (some ⟨w.heap.size, 0, none⟩) ls.length ls.length) ls := by
  refine ⟨_, _, rfl, Nat.le_refl _, hm, fun _ => ⟨w.heap.size, 0, rfl, fun j hj => ⟨vs[j]'(by omega), ?_, (h j (by omega) hj).alloc _⟩⟩⟩
  rw [Nat.zero_add, World.cell?_alloc_at _ _ _ _ rfl]
  simp [hl, hj]

theorem Bs.cut {w : World} {A : Option Addr} {n c : Nat} {l : List UInt8} (h : Bs w (.slice A n c) l) (k : Nat) (hk : k ≤ l.length) :
    Bs w (.slice (if c = k then A else Option.map (fun x => x.add k) A) (l.length - k) (c - k)) (l.drop k) := by
  obtain ⟨A', c', hv, h1, h2, h3⟩ := h
  injection hv with e1 e2 e3
  subst e1 e2 e3
  have hl : (l.drop k).length = l.length - k := List.length_drop
  refine ⟨_, c - k, by rw [hl], by rw [hl]; omega, by omega, fun h0 => ?_⟩
  rw [hl] at h0
  obtain ⟨b, off, rfl, hc⟩ := h3 (by omega)
  have hadd : (⟨b, off, none⟩ : Addr).add k = ⟨b, off + k, none⟩ := by unfold Addr.add; split <;> simp_all
  refine ⟨b, off + k, by rw [if_neg (by omega)]; simp [hadd], fun j hj => ?_⟩
  rw [hl] at hj
  rw [Nat.add_assoc, hc (k + j) (by omega), List.getElem_drop]
theorem Bss.drew {w : World} {v : Value} {ls : List (List UInt8)} (h : Bss w v ls) : Bss w.drew v ls := h
theorem Bss.two (w : World) (e : TypeId) (u v : Value) (a b : List UInt8) (ha : Bs w u a) (hb : Bs w v b) :
    Bss (w.alloc (.cells #[u, v] e)) (.slice (some ⟨w.heap.size, 0, none⟩) 2 2) [a, b] :=
  Bss.lit w e [u, v] [a, b] rfl (by simp [maxLen]) (fun j h1 h2 => by
    match j, h1 with
    | 0, _ => exact ha
    | 1, _ => exact hb)
theorem Bss.three (w : World) (e : TypeId) (u v x : Value) (a b c : List UInt8) (ha : Bs w u a) (hb : Bs w v b) (hc : Bs w x c) :
    Bss (w.alloc (.cells #[u, v, x] e)) (.slice (some ⟨w.heap.size, 0, none⟩) 3 3) [a, b, c] :=
  Bss.lit w e [u, v, x] [a, b, c] rfl (by simp [maxLen]) (fun j h1 h2 => by
    match j, h1 with
    | 0, _ => exact ha
    | 1, _ => exact hb
    | 2, _ => exact hc)

theorem flat_take (ls : List (List UInt8)) (k : Nat) (h : k < ls.length) : (ls.take (k + 1)).flatten = (ls.take k).flatten ++ ls[k] := by
  rw [List.take_succ_eq_append_getElem h, List.flatten_append]
  simp
theorem flat_le (ls : List (List UInt8)) (k : Nat) : (ls.take k).flatten.length ≤ ls.flatten.length := by
  have h : ls.flatten = (ls.take k).flatten ++ (ls.drop k).flatten := by rw [← List.flatten_append, List.take_append_drop]
  rw [h, List.length_append]
  omega

set_option maxHeartbeats 1000000 in
theorem Join_own (w : World) (v : Value) (ls : List (List UInt8)) (h : Bss w v ls) (hl : ls.flatten.length ≤ 1000000000000) (hn : ls.length ≤ 1000000000000) :
    Calls Tryd.prog 19 #[v] w (RetOwn w 5 ls.flatten) := by
  obtain ⟨i0, hi, hz0, hz1, hz2⟩ := info_parts Tryd.infoB
  obtain ⟨A, c, rfl, h1, h2, h3⟩ := h
  unfold maxLen at h2
  go_enter Tryd.func19, Tryd.ntmps19
  go_wp2
  go_loop [3, 11] (fun n i => ∃ k q : Nat, k ≤ ls.length ∧ i = .int .i64 k ∧ q = (ls.take k).flatten.length ∧ n = .int .i64 (q : Int)) (fun _ i => ls.length - (intOf i).toNat)
  case atStart => exact ⟨0, 0, Nat.zero_le _, rfl, by simp, rfl⟩
  case round =>
    obtain ⟨k, q, hk, rfl, hq, rfl⟩ := hrel
    have hqb : q ≤ ls.flatten.length := by rw [hq]; exact flat_le ls k
    have HQ := Lib.hid hq
    clear hq
    by_cases hlt : k < ls.length
    · obtain ⟨b0, o0, rfl, hc⟩ := h3 (by omega)
      obtain ⟨u, hcell, ⟨Ak, ck, rfl, hk1, hk2, hk3⟩⟩ := hc k hlt
      have HT : Hid ((ls.take (k + 1)).flatten.length = q + ls[k].length) := by
        show _ = _
        rw [flat_take ls k hlt, List.length_append, ← HQ.out]
      have hb2 : q + ls[k].length ≤ ls.flatten.length := by rw [← HT.out]; exact flat_le ls (k + 1)
      clear hc h3 hk3
      go_wp2
      go_round
      case rel => exact ⟨k + 1, q + ls[k].length, by omega, by go_num, HT.out.symm, by go_num⟩
      case measure => simp [intOf]; omega
    · have hfin : q = ls.flatten.length := by have := HQ.out; rwa [List.take_of_length_le (by omega)] at this
      have HF := Lib.hid hfin
      have hq2 : ls.flatten.length ≤ q := by omega
      clear hfin
      go_wp2_with ((with_reducible refine wpList_make_own _ rfl (.const (.int .i64 0)) (.tmp 20) 24 rfl w.heap.size 5 i0 (.int .u8 0) 1 Tryd.underlying24 hi hz0 hz1 .i64 .i64 (q : Int) q (by with_unfolding_all rfl) (by with_unfolding_all rfl) rfl (by rw [hz2]; omega) (by unfold maxLen; omega) (Nat.le_refl _) ?_); intro w1 hown hgrow)
      have hown0 : OwnB w1 w.heap.size 5 (.slice (some ⟨w.heap.size, 0, none⟩) 0 q) (ls.take 0).flatten := hown
      have hbel : Below w.heap.size w w1 := (Below.refl _ _).grown hgrow (Nat.le_refl _) (fun k h => by cases h)
      clear hown hgrow
      go_loopw [6, 24] (fun v i wr => ∃ k : Nat, k ≤ ls.length ∧ i = .int .i64 k ∧ OwnB wr w.heap.size 5 v (ls.take k).flatten ∧ Below w.heap.size w wr) (fun _ i _ => ls.length - (intOf i).toNat)
      case atStart => exact ⟨0, Nat.zero_le _, rfl, hown0, hbel⟩
      case round =>
        clear hown0 hbel HQ hk
        obtain ⟨j, hj, rfl, hown, hb⟩ := hrel
        have HO := Lib.hid hown
        have HB := Lib.hid hb
        clear hown hb
        by_cases hlt2 : j < ls.length
        · obtain ⟨b0, o0, rfl, hc⟩ := h3 (by omega)
          obtain ⟨u, hcell, hu⟩ := hc j hlt2
          have hcell2 : wr.cell? ⟨b0, o0 + j, none⟩ = some u := (HB.out.cell (p := ⟨b0, o0 + j, none⟩) (World.block_lt_of_cell? w _ hcell)).trans hcell
          have HU := Lib.hid (hu.below HB.out)
          have HT := Lib.hid (flat_take ls j hlt2)
          have HLn : Hid ((ls.take j).flatten.length + ls[j].length ≤ 140737488355328) := by
            show _ ≤ _
            have := flat_le ls (j + 1)
            rw [flat_take ls j hlt2, List.length_append] at this
            omega
          clear hc h3 hcell hu
          go_wp2_with (at_builtin; refine wpList_appB _ rfl (.tmp 28) (.tmp 29) 24 rfl w 5 Tryd.infoB Tryd.underlying24 _ _ (ls.take j).flatten ls[j] rfl rfl HO.out HU.out HLn.out HB.out ?_; intro v2 w2 hown2 hb2)
          go_roundw
          case rel => exact ⟨j + 1, by omega, by go_num, by rw [HT.out]; exact hown2, hb2⟩
          case measure => simp [intOf]; omega
        · have HO2 : Hid (OwnB wr w.heap.size 5 u6 ls.flatten) := by
            have := HO.out; rwa [List.take_of_length_le (by omega)] at this
          go_wp2
          go_ret
          exact ⟨_, rfl, HO2.out, HB.out⟩
theorem Join_any (w : World) (v : Value) (ls : List (List UInt8)) (h : Bss w v ls) (hl : ls.flatten.length ≤ 1000000000000) (hn : ls.length ≤ 1000000000000) :
    Calls Tryd.prog 19 #[v] w (RetBs w ls.flatten) :=
  (Join_own w v ls h hl hn).mono fun _ _ ⟨u, he, ho, hb⟩ => ⟨u, he, ho.bs, hb⟩
end Go.Proofs.YtjdbjgaoeijmfaaDoor
end
section
namespace Go.Proofs.YtjdbjgaoeijmfaaDoor
open Go.RowKit
set_option linter.unusedVariables false
set_option maxRecDepth 20000

theorem Bs.mid {w : World} {A : Option Addr} {n c : Nat} {l : List UInt8} (h : Bs w (.slice A n c) l) (k m : Nat) (hm : 0 < m) (hk : k + m ≤ l.length) :
    Bs w (.slice (Option.map (fun x => x.add k) A) m (c - k)) ((l.drop k).take m) := by
  obtain ⟨A', c', hv, h1, h2, h3⟩ := h
  injection hv with e1 e2 e3
  subst e1 e2 e3
  have hl : ((l.drop k).take m).length = m := by simp; omega
  obtain ⟨b, off, rfl, hc⟩ := h3 (by omega)
  have hadd : (⟨b, off, none⟩ : Addr).add k = ⟨b, off + k, none⟩ := by unfold Addr.add; split <;> simp_all
  refine ⟨_, c - k, by rw [hl], by rw [hl]; omega, by omega, fun _ => ⟨b, off + k, by simp [hadd], fun j hj => ?_⟩⟩
  rw [hl] at hj
  rw [Nat.add_assoc, hc (k + j) (by omega)]
  simp

/-- A whole array of bytes, as a slice. -/
theorem arr_bs {w : World} {g : Nat} {t : TypeId} {l : List UInt8} (h : RowAt w g t (keyC l)) (n : Nat) (hl : l.length = n) (hm : n ≤ 1000000) : Bs w (.slice (some ⟨g, 0, none⟩) n n) l := by
  subst hl
  exact row_bs h (by unfold maxLen; omega)

theorem ofLow4_lt (l : List UInt8) (i : Nat) : ofLowB ((l.drop (4 * i)).take 4) < 4294967296 := by
  have h := ofLowB_lt ((l.drop (4 * i)).take 4)
  have : ((l.drop (4 * i)).take 4).length ≤ 4 := List.length_take_le _ _
  have h2 : 256 ^ ((l.drop (4 * i)).take 4).length ≤ 256 ^ 4 := Nat.pow_le_pow_right (by omega) this
  omega

set_option maxHeartbeats 400000 in
theorem wordAt_any (w : World) (v : Value) (l : List UInt8) (h : Bs w v l) (i : Nat) (hi : 4 * i + 4 ≤ l.length) (hl : l.length ≤ 1000000) :
    Calls Tryd.prog 74 #[v, .int .i64 (i : Int)] w fun e w' => e = .returned (.int .u32 ((wordLow l i).toNat : Int)) ∧ w = w' := by
  have HB := Lib.hid h
  obtain ⟨A, c, rfl, h1, h2, h3⟩ := h
  unfold maxLen at h2
  have HM := Lib.hid (HB.out.mid (4 * i) 4 (by omega) hi)
  have hv := ofLow4_lt l i
  have ht8 : ((l.drop (4 * i)).take 4).take 8 = (l.drop (4 * i)).take 4 := List.take_of_length_le (by simp; omega)
  have hwo : IntKind.u32.wrap (ofLowB ((l.drop (4 * i)).take 4) : Int) = ((wordLow l i).toNat : Int) := by
    rw [IntKind.wrap_u32, wordLow, UInt32.toNat_ofNat']
    omega
  have HT := Lib.hid ht8
  have HW := Lib.hid hwo
  clear h3 hv ht8 hwo
  go_enter Tryd.func74, Tryd.ntmps74
  go_wp2_with fail
  rw [show 4 * (i + 1) - 4 * i = 4 by omega]
  refine (OfLow_any _ _ _ HM.out).mono ?_
  rintro e w' ⟨rfl, rfl⟩
  rw [HT.out]
  have hwo := HW.out
  go_wp2
  go_ret
  exact ⟨rfl, rfl⟩

/-- Words that are there, and zeros behind them. -/
def fillW (a : List UInt32) (n : Nat) : List UInt32 := a ++ List.replicate (n - a.length) 0
theorem fillW_length (a : List UInt32) (n : Nat) (h : a.length ≤ n) : (fillW a n).length = n := by simp [fillW]; omega
theorem fillW_step (a : List UInt32) (n : Nat) (x : UInt32) (h : a.length < n) : (fillW a n).set a.length x = fillW (a ++ [x]) n := by
  unfold fillW
  rw [List.set_append_right _ _ (Nat.le_refl _), Nat.sub_self, show n - a.length = (n - (a ++ [x]).length) + 1 by simp; omega, List.replicate_succ, List.set_cons_zero]
  simp
theorem fillW_all (a : List UInt32) (n : Nat) (h : a.length = n) : fillW a n = a := by simp [fillW, h]
def constsW : List UInt32 := [0x61707865, 0x3320646e, 0x79622d32, 0x6b206574]
def headS (key : List UInt8) (j : Nat) : List UInt32 := constsW ++ (List.range j).map (wordLow key)
def tailS (key : List UInt8) (ctr : UInt32) (nonce : List UInt8) (j : Nat) : List UInt32 := headS key 8 ++ [ctr] ++ (List.range j).map (wordLow nonce)
theorem headS_length (key : List UInt8) (j : Nat) : (headS key j).length = 4 + j := by simp [headS, constsW]; omega
theorem tailS_length (key : List UInt8) (ctr : UInt32) (nonce : List UInt8) (j : Nat) : (tailS key ctr nonce j).length = 13 + j := by simp [tailS, headS_length]; omega
theorem headS_succ (key : List UInt8) (j : Nat) : headS key (j + 1) = headS key j ++ [wordLow key j] := by simp [headS, List.range_succ]
theorem tailS_succ (key : List UInt8) (ctr : UInt32) (nonce : List UInt8) (j : Nat) : tailS key ctr nonce (j + 1) = tailS key ctr nonce j ++ [wordLow nonce j] := by simp [tailS, List.range_succ]
theorem headS_zero (key : List UInt8) : headS key 0 = constsW := by simp [headS]
theorem tailS_zero (key : List UInt8) (ctr : UInt32) (nonce : List UInt8) : tailS key ctr nonce 0 = headS key 8 ++ [ctr] := by simp [tailS]

theorem Tryd.zeroK32 : (Tryd.prog.info? 23).map (·.zero) = some (some (.agg (keyC zeroKey))) := by kernel_rfl
theorem litsW : (#[.int .u32 1634760805, .int .u32 857760878, .int .u32 2036477234, .int .u32 1797285236, .int .u32 0, .int .u32 0, .int .u32 0, .int .u32 0, .int .u32 0, .int .u32 0, .int .u32 0, .int .u32 0, .int .u32 0, .int .u32 0, .int .u32 0, .int .u32 0] : Array Value) = wordsC (fillW constsW 16) := by kernel_rfl

theorem initW_length : (fillW constsW 16).length = 16 := rfl
theorem litsV : Value.agg #[.int .u32 1634760805, .int .u32 857760878, .int .u32 2036477234, .int .u32 1797285236, .int .u32 0, .int .u32 0, .int .u32 0, .int .u32 0, .int .u32 0, .int .u32 0, .int .u32 0, .int .u32 0, .int .u32 0, .int .u32 0, .int .u32 0, .int .u32 0] = .agg (wordsC (fillW constsW 16)) := by rw [litsW]

set_option maxHeartbeats 1000000 in
theorem begin_any (w : World) (key nonce : List UInt8) (ctr : UInt32) (hk : key.length = 32) (hn : nonce.length = 12) :
    Calls Tryd.prog 61 #[keyV key, .int .u32 (ctr.toNat : Int), keyV nonce] w (RetV w (.agg (wordsC (firstS key ctr nonce)))) := by
  obtain ⟨fin, hfin⟩ : ∃ fin, fin = firstS key ctr nonce := ⟨_, rfl⟩
  have HFL : Hid (fin.length = 16) := by show _ = _; rw [hfin, firstS_length]
  rw [← hfin]
  have HF : Hid (fin = tailS key ctr nonce 3) := hfin
  have HK := Lib.hid hk
  have HN := Lib.hid hn
  have hctr := ctr.toNat_lt
  clear hfin hk hn
  go_enter Tryd.func61, Tryd.ntmps61
  go_wp2_with (first
    | ((with_reducible refine wpList_box_row (o := ⟨some 3, _, _, _, _, _⟩) rfl 23 (.tmp 0) rfl (keyC key) (by with_unfolding_all rfl) ?_); intro g1 w1 n1)
    | ((with_reducible refine wpList_box_row (o := ⟨some 5, _, _, _, _, _⟩) rfl 67 (.tmp 2) rfl (keyC nonce) (by with_unfolding_all rfl) ?_); intro g2 w2 n2)
    | ((with_reducible refine wpList_alloc_row (o := ⟨some 6, _, _, _, _, _⟩) rfl 103 rfl (wordsC zeroW) Tryd.zeroWs ?_); intro g3 w3 n3)
    | ((with_reducible refine wpList_alloc_row (o := ⟨some 7, _, _, _, _, _⟩) rfl 103 rfl (wordsC zeroW) Tryd.zeroWs ?_); intro g4 w4 n4)
    | ((with_reducible refine wpList_store_row (o := ⟨none, _, _, _, _, _⟩) rfl 103 (.tmp 7) (.tmp 10) rfl g4 103 _ (wordsC (fillW constsW 16)) (by with_unfolding_all rfl) (by with_unfolding_all exact litsV) n4.row (wordsC_same zeroW_length initW_length) (Tryd.sizeWs _ initW_length) (wordsC_one _) ?_); intro w5 p5))
  have HN : Hid (nonce.length = 12) := HN
  have hg1 : w.heap.size ≤ g1 := Nat.le_of_eq n1.spot.symm
  have s1 := n1.row.lt
  have s2 := n2.row.lt
  have s3 := n3.row.lt
  have e2 := n2.spot
  have e3 := n3.spot
  have e4 := n4.spot
  have z1 := n1.size
  have z2 := n2.size
  have z3 := n3.size
  have hg3 : w.heap.size ≤ g3 := by omega
  have hg4 : w.heap.size ≤ g4 := by omega
  have h14 : g1 ≠ g4 := by omega
  have h24 : g2 ≠ g4 := by omega
  have h34 : g3 ≠ g4 := by omega
  have B4 : Below w.heap.size w w4 := below_size (below_size (below_size n1.below n2.below) n3.below) n4.below
  have hr1 : RowAt w5 g1 23 (keyC key) := (((n1.row.kept n2.below).kept n3.below).kept n4.below).grown p5.grown (by intro h; injection h with h; omega)
  have hr2 : RowAt w5 g2 67 (keyC nonce) := ((n2.row.kept n3.below).kept n4.below).grown p5.grown (by intro h; injection h with h; omega)
  have hr3 : RowAt w5 g3 103 (wordsC zeroW) := (n3.row.kept n4.below).grown p5.grown (by intro h; injection h with h; omega)
  have hr4 : RowAt w5 g4 103 (wordsC (fillW (headS key 0) 16)) := by rw [headS_zero]; exact p5.row
  have B5 : Below w.heap.size w w5 := p5.below B4 B4.size hg4
  clear n1 n2 n3 n4 p5 s1 s2 s3 e2 e3 e4 z1 z2 z3 B4
  go_loopw [11] (fun i wr => ∃ k : Nat, k ≤ 8 ∧ i = .int .i64 k ∧ RowAt wr g1 23 (keyC key) ∧ RowAt wr g2 67 (keyC nonce) ∧ RowAt wr g3 103 (wordsC zeroW) ∧ RowAt wr g4 103 (wordsC (fillW (headS key k) 16)) ∧ Below w.heap.size w wr) (fun i _ => 8 - (intOf i).toNat)
  case atStart => exact ⟨0, by omega, rfl, hr1, hr2, hr3, hr4, B5⟩
  case round =>
    clear hr1 hr2 hr3 hr4 B5
    obtain ⟨k, hk, rfl, hr1, hr2, hr3, hr4, hb⟩ := hrel
    have R1 := Lib.hid hr1
    have R2 := Lib.hid hr2
    have R3 := Lib.hid hr3
    have R4 := Lib.hid hr4
    have HB := Lib.hid hb
    clear hr1 hr2 hr3 hr4 hb
    by_cases hlt : k < 8
    · have hcell := wordsC_cell R4.out (4 + k) (by rw [fillW_length _ _ (by rw [headS_length]; omega)]; omega)
      have hfz := R4.out.frozen (4 + k)
      have hput := R4.out.put (4 + k) (.int .u32 ((wordLow key k).toNat : Int))
      have hst := fillW_step (headS key k) 16 (wordLow key k) (by rw [headS_length]; omega)
      rw [headS_length, ← headS_succ] at hst
      rw [wordsC_put, hst] at hput
      have HP := Lib.hid hput
      generalize (fillW (headS key k) 16).getD (4 + k) 0 = old at hcell
      have hq : 4 + (k : Int) < 16 := by omega
      clear hput hst
      go_wp2_with fail
      refine (wordAt_any _ _ key (arr_bs R1.out 32 HK.out (by omega)) k (by rw [HK.out]; omega) (by rw [HK.out]; omega)).mono ?_
      rintro e w' ⟨rfl, rfl⟩
      go_wp2
      go_roundw
      case rel => exact ⟨k + 1, by omega, by go_num, R1.out.far (by show g1 ≠ g4; exact h14) _, R2.out.far (by show g2 ≠ g4; exact h24) _, R3.out.far (by show g3 ≠ g4; exact h34) _, HP.out, HB.out.setCell hg4 _⟩
      case measure => simp [intOf]; omega
    · have hk8 : k = 8 := by omega
      have R42 : Hid (RowAt wr g4 103 (wordsC (fillW (headS key 8) 16))) := by rw [← hk8]; exact R4
      have hcell := wordsC_cell R42.out 12 (by rw [fillW_length _ _ (by rw [headS_length]; omega)]; omega)
      have hfz := R42.out.frozen 12
      have hput := R42.out.put 12 (.int .u32 (ctr.toNat : Int))
      have hst := fillW_step (headS key 8) 16 ctr (by rw [headS_length]; omega)
      rw [headS_length, ← tailS_zero key ctr nonce] at hst
      rw [wordsC_put, show (fillW (headS key 8) 16).set 12 ctr = _ from hst] at hput
      generalize (fillW (headS key 8) 16).getD 12 0 = old at hcell
      have HP := Lib.hid hput
      clear hput hst hk8 R4
      have B42 : Hid (Below w.heap.size w (wr.setCell ⟨g4, 12, none⟩ (.int .u32 (ctr.toNat : Int)))) := HB.out.setCell hg4 _
      have R22 : Hid (RowAt (wr.setCell ⟨g4, 12, none⟩ (.int .u32 (ctr.toNat : Int))) g2 67 (keyC nonce)) := R2.out.far (by show g2 ≠ g4; exact h24) _
      have R32 : Hid (RowAt (wr.setCell ⟨g4, 12, none⟩ (.int .u32 (ctr.toNat : Int))) g3 103 (wordsC zeroW)) := R3.out.far (by show g3 ≠ g4; exact h34) _
      go_wp2
      clear hcell hfz R1 R2 R3 R42 HB
      go_loopw [23] (fun i wr => ∃ k : Nat, k ≤ 3 ∧ i = .int .i64 k ∧ RowAt wr g2 67 (keyC nonce) ∧ RowAt wr g3 103 (wordsC zeroW) ∧ RowAt wr g4 103 (wordsC (fillW (tailS key ctr nonce k) 16)) ∧ Below w.heap.size w wr) (fun i _ => 3 - (intOf i).toNat)
      case atStart => exact ⟨0, by omega, rfl, R22.out, R32.out, HP.out, B42.out⟩
      case round =>
        clear R22 R32 HP B42
        rename_i k0 _ _ _ _
        obtain ⟨k, hk, rfl, hr2, hr3, hr4, hb⟩ := hrel
        have R2 := Lib.hid hr2
        have R3 := Lib.hid hr3
        have R4 := Lib.hid hr4
        have HB := Lib.hid hb
        clear hr2 hr3 hr4 hb
        by_cases hlt3 : k < 3
        · have hcell := wordsC_cell R4.out (13 + k) (by rw [fillW_length _ _ (by rw [tailS_length]; omega)]; omega)
          have hfz := R4.out.frozen (13 + k)
          have hput := R4.out.put (13 + k) (.int .u32 ((wordLow nonce k).toNat : Int))
          have hst := fillW_step (tailS key ctr nonce k) 16 (wordLow nonce k) (by rw [tailS_length]; omega)
          rw [tailS_length, ← tailS_succ] at hst
          rw [wordsC_put, hst] at hput
          have HP := Lib.hid hput
          generalize (fillW (tailS key ctr nonce k) 16).getD (13 + k) 0 = old at hcell
          have hq : 13 + (k : Int) < 16 := by omega
          clear hput hst
          go_wp2_with fail
          refine (wordAt_any _ _ nonce (arr_bs R2.out 12 HN.out (by omega)) k (by rw [HN.out]; omega) (by rw [HN.out]; omega)).mono ?_
          rintro e w' ⟨rfl, rfl⟩
          go_wp2
          go_roundw
          case rel => exact ⟨k + 1, by omega, by go_num, R2.out.far (by show g2 ≠ g4; exact h24) _, R3.out.far (by show g3 ≠ g4; exact h34) _, HP.out, HB.out.setCell hg4 _⟩
          case measure => simp [intOf]; omega
        · have hk3 : k = 3 := by omega
          have R43 : Hid (RowAt wr g4 103 (wordsC fin)) := by
            have := R4.out
            rw [hk3, fillW_all _ _ (tailS_length key ctr nonce 3), ← HF.out] at this
            exact this
          clear hk3 R4
          go_wp2_with (first | (with_reducible refine wpList_load_row (o := ⟨some 33, _, _, _, _, _⟩) rfl 103 (.tmp 7) rfl g4 (by with_unfolding_all rfl) 103 (wordsC fin) (0, 0) (.array 16 48) (by with_unfolding_all exact R43.out) Tryd.underlying103 rfl (Tryd.sizeWs fin HFL.out) ?_) | ((with_reducible refine wpList_store_row (o := ⟨none, _, _, _, _, _⟩) rfl 103 (.tmp 6) (.tmp 33) rfl g3 103 _ (wordsC fin) (by with_unfolding_all rfl) (by with_unfolding_all rfl) R3.out (wordsC_same zeroW_length HFL.out) (Tryd.sizeWs fin HFL.out) (wordsC_one fin) ?_); intro w9 p9))
          refine bodyPost_ret (results_cell_row rfl _ _ g3 103 (wordsC fin) (0, 0) (.array 16 48) rfl p9.row Tryd.underlying103 rfl (Tryd.sizeWs fin HFL.out)) rfl ⟨rfl, ?_⟩
          exact p9.below HB.out HB.out.size hg3

def zero64B : List UInt8 := List.replicate 64 0
theorem zero64B_length : zero64B.length = 64 := by simp [zero64B]
theorem Tryd.zero64B : (Tryd.prog.info? 75).map (·.zero) = some (some (.agg (keyC zero64B))) := by kernel_rfl
theorem Tryd.size64B (l : List UInt8) (h : l.length = 64) : (Tryd.prog.info? 75).map (·.size) = some (keyC l).size := by
  rw [keyC_size, h]
  exact (by kernel_rfl : (Tryd.prog.info? 75).map (·.size) = some 64)
theorem Tryd.size32W : (Tryd.prog.info? 48).map (·.size) = some 1 := by kernel_rfl
theorem keyC_sameN {a b : List UInt8} {n : Nat} (ha : a.length = n) (hb : b.length = n) : (keyC a).size = (keyC b).size := by rw [keyC_size, keyC_size, ha, hb]
theorem bytesLow_snoc (l : List UInt32) (x : UInt32) : bytesLow (l ++ [x]) = bytesLow l ++ lowB x.toNat 4 := by simp [bytesLow]

set_option maxHeartbeats 1000000 in
theorem written_any (w : World) (ws : List UInt32) (hl : ws.length = 16) :
    Calls Tryd.prog 63 #[.agg (wordsC ws)] w (RetV w (keyV (bytesLow ws))) := by
  obtain ⟨fin, hfin⟩ : ∃ fin, fin = bytesLow ws := ⟨_, rfl⟩
  have HFL : Hid (fin.length = 64) := by show _ = _; rw [hfin, bytesLow_length, hl]
  rw [← hfin]
  have HF := Lib.hid hfin
  have HL := Lib.hid hl
  clear hfin hl
  go_enter Tryd.func63, Tryd.ntmps63
  go_wp2_with (first
    | ((with_reducible refine wpList_box_row (o := ⟨some 1, _, _, _, _, _⟩) rfl 103 (.tmp 0) rfl (wordsC ws) (by with_unfolding_all rfl) ?_); intro g1 w1 n1)
    | ((with_reducible refine wpList_alloc_row (o := ⟨some 2, _, _, _, _, _⟩) rfl 75 rfl (keyC zero64B) Tryd.zero64B ?_); intro g2 w2 n2)
    | ((with_reducible refine wpList_alloc_row (o := ⟨some 3, _, _, _, _, _⟩) rfl 75 rfl (keyC zero64B) Tryd.zero64B ?_); intro g3 w3 n3)
    | (with_reducible refine wpList_load_row (o := ⟨some 6, _, _, _, _, _⟩) rfl 103 (.tmp 1) rfl g1 (by with_unfolding_all rfl) 103 (wordsC ws) (0, 0) (.array 16 48) (by with_unfolding_all exact (n1.row.kept n2.below).kept n3.below) Tryd.underlying103 rfl (Tryd.sizeWs ws HL.out) ?_))
  have B3 : Below w.heap.size w w3 := below_size (below_size n1.below n2.below) n3.below
  have hg2 : w.heap.size ≤ g2 := by rw [n2.spot]; exact n1.below.size
  have hg3 : w.heap.size ≤ g3 := by rw [n3.spot]; have := n1.below.size; have := n2.below.size; omega
  have h23 : g2 < g3 := by have := n3.spot; have := n2.row.lt; omega
  have hr2 : RowAt w3 g2 75 (keyC zero64B) := n2.row.kept n3.below
  have hr3 : RowAt w3 g3 75 (keyC (fillB (bytesLow (ws.take 0)) 64)) := n3.row
  clear n1 n2 n3
  go_loopw [7] (fun i wr => ∃ k : Nat, k ≤ 16 ∧ i = .int .i64 k ∧ RowAt wr g2 75 (keyC zero64B) ∧ RowAt wr g3 75 (keyC (fillB (bytesLow (ws.take k)) 64)) ∧ Below w.heap.size w wr) (fun i _ => 16 - (intOf i).toNat)
  case atStart => exact ⟨0, by omega, rfl, hr2, hr3, B3⟩
  case round =>
    clear hr2 hr3 B3
    obtain ⟨k, hk, rfl, hr2, hr3, hb⟩ := hrel
    have R2 := Lib.hid hr2
    have R3 := Lib.hid hr3
    have HB := Lib.hid hb
    clear hr2 hr3 hb
    by_cases hlt : k < 16
    · have hln : (bytesLow (ws.take k)).length = 4 * k := by rw [bytesLow_length, List.length_take_of_le (by rw [HL.out]; omega)]
      have htk : bytesLow (ws.take (k + 1)) = bytesLow (ws.take k) ++ lowB (ws.getD k 0).toNat 4 := by
        rw [List.take_succ_eq_append_getElem (by rw [HL.out]; omega), bytesLow_snoc]
        simp [HL.out, hlt]
      have hix := fun x : World => run_index_arr (P := Tryd.prog) x 103 48 16 (wordsC ws) .i64 .u32 k Tryd.underlying103 Tryd.underlying48 Tryd.size32W hlt _ (wordsC_get ws k (by rw [HL.out]; omega))
      have hsl := fun x : World => run_sliceArrL (P := Tryd.prog) x 75 5 64 Tryd.underlying75 Tryd.sizeB g3 0 (4 * k) (4 * (k : Int)) (by omega) (by omega)
      rw [Nat.zero_add] at hsl
      have HT := Lib.hid htk
      have HLN := Lib.hid hln
      generalize ws.getD k 0 = x at hix HT
      have hx := x.toNat_lt
      clear htk hln
      have hdl : (lowB x.toNat 4).length = 4 := lowB_length _ _
      have HD := Lib.hid hdl
      have hq : 4 * (k : Int) < 64 := by omega
      have hw64 : IntKind.u64.wrap (x.toNat : Int) = (x.toNat : Int) := by rw [IntKind.wrap_u64]; omega
      have hs4 : 4 * k + 4 ≤ 64 := by omega
      clear hdl
      have hw4 : IntKind.i64.wrap (4 * (k : Int)) = 4 * (k : Int) := IntWalk.i64_in _ (by omega)
      have hg3r : g3 ≤ wr.heap.size := by have := R3.out.lt; omega
      go_wp2_with fail
      go_region_law (first
        | (go_simp; go_at_call 76; refine (Low_in _ x.toNat 4 (by omega) (by omega) (by omega)).mono ?_; rintro e w3 ⟨_, rfl, hbs, b3⟩; have HS := Lib.hid hbs; obtain ⟨A, c, rfl, h1, h2, h3⟩ := hbs; clear h1 h2 h3)
        | (refine step_copy_splice rfl (.tmp 13) (.tmp 16) 24 24 rfl 5 Tryd.underlying24 Tryd.sizeB (some ⟨g3, 4 * k, none⟩) A (64 - 4 * k) (64 - 4 * k) (lowB x.toNat 4).length c rfl rfl g3 (4 * k) (cellsB (fillB (bytesLow (ws.take k)) 64)) 75 (R3.out.drew.kept b3) (cellsB (lowB x.toNat 4)) (by rw [cellsB_length, HD.out]; show 4 = min 4 _; omega) (copy_from HS.out) (by rw [cellsB_length, cellsB_length, fillB_length _ _ (by rw [HLN.out]; omega), HD.out]; omega) (cellsB_one _) g3 wr ((Below.refl g3 wr).drew.trans (b3.mono hg3r)) (Nat.le_refl _) ?_; intro w4 hr4 hb4))
      have hr5 := hr4.out
      rw [splice_bytes] at hr5
      have hst := fillB_step (bytesLow (ws.take k)) (lowB x.toNat 4) 64 (by rw [HLN.out, HD.out]; omega)
      rw [HLN.out] at hst
      rw [hst, ← HT.out] at hr5
      have R5 : Hid (RowAt w4 g3 75 (keyC (fillB (bytesLow (ws.take (k + 1))) 64))) := hr5
      have HB4 : Hid (Below w.heap.size w w4) := HB.out.trans (hb4.mono hg3)
      have R24 : Hid (RowAt w4 g2 75 (keyC zero64B)) := R2.out.below hb4 h23
      clear hr5 hr4 hst hb4 hix hsl
      go_wp2
      go_roundw
      case rel => exact ⟨k + 1, by omega, by go_num, R24.out, R5.out, HB4.out⟩
      case measure => simp [intOf]; omega
    · have hk16 : k = 16 := by omega
      have R53 : Hid (RowAt wr g3 75 (keyC fin)) := by
        have := R3.out
        rw [hk16, List.take_of_length_le (by rw [HL.out]; omega), ← HF.out, fillB_all _ _ HFL.out] at this
        exact this
      clear hk16 R3
      go_wp2_with (first | (with_reducible refine wpList_load_row (o := ⟨some 19, _, _, _, _, _⟩) rfl 75 (.tmp 3) rfl g3 (by with_unfolding_all rfl) 75 (keyC fin) (0, 0) (.array 64 5) (by with_unfolding_all exact R53.out) Tryd.underlying75 rfl (Tryd.size64B fin HFL.out) ?_) | ((with_reducible refine wpList_store_row (o := ⟨none, _, _, _, _, _⟩) rfl 75 (.tmp 2) (.tmp 19) rfl g2 75 _ (keyC fin) (by with_unfolding_all rfl) (by with_unfolding_all rfl) R2.out (keyC_sameN zero64B_length HFL.out) (Tryd.size64B fin HFL.out) (keyC_one fin) ?_); intro w9 p9))
      refine bodyPost_ret (results_cell_row rfl _ _ g2 75 (keyC fin) (0, 0) (.array 64 5) rfl p9.row Tryd.underlying75 rfl (Tryd.size64B fin HFL.out)) rfl ⟨rfl, ?_⟩
      exact p9.below HB.out HB.out.size hg2
end Go.Proofs.YtjdbjgaoeijmfaaDoor
end
