/-
  Contracts of the stream's small functions: a word turned left, stir, Quarter. Conditions: as each theorem names them.
-/
import Derived.Test.YtplaoofclgpeeaaDoorChecked
import Derived.Test.YtplaoofclgpeeaaDoorWords
import Derived.Test.YtplaoofclgpeeaaDoorStreamMath
namespace Go.Proofs.YtplaoofclgpeeaaDoor
open Go.RowKit
set_option linter.unusedVariables false
set_option maxRecDepth 20000

/-- Of a number its lowest four bits. -/
def low4 (a : Int) : Nat := (a % 16).toNat
theorem low4_lt (a : Int) : low4 a < 16 := by unfold low4; omega
theorem low4_nat (n : Nat) (h : n < 16) : low4 (n : Int) = n := by unfold low4; omega
theorem and15 (a : Int) : bits .and .i64 a 15 = (low4 a : Int) := by
  show IntKind.i64.wrap ((BitVec.ofInt 64 a &&& BitVec.ofInt 64 15).toNat : Int) = _
  rw [BitVec.toNat_and, show (BitVec.ofInt 64 15).toNat = 15 from rfl, nat_mask4, BitVec.toNat_ofInt, IntWalk.i64_in _ (by omega)]
  unfold low4
  omega

theorem and31 (n : Nat) (h2 : n ≤ 31) : bits .and .u64 (n : Int) 31 = (n : Int) := by
  have := u64_and_nat n 31 (by omega) (by omega)
  rw [show ((31 : Nat) : Int) = 31 from rfl] at this
  rw [this, nat_mask5, Nat.mod_eq_of_lt (by omega)]
theorem rotl_int (x : UInt32) (n m : Nat) (hm : m + n = 32) : bits .or .u32 ((x.toNat : Int) * 2 ^ n % 4294967296) ((x.toNat : Int) / 2 ^ m) = ((rotl x n).toNat : Int) := by
  have e1 : (x.toNat : Int) * 2 ^ n % 4294967296 = ((x.toNat * 2 ^ n % 4294967296 : Nat) : Int) := by simp
  have e2 : (x.toNat : Int) / 2 ^ m = ((x.toNat / 2 ^ m : Nat) : Int) := by simp
  rw [e1, e2, u32_or_nat _ _ (Nat.mod_lt _ (by omega)) (div_lt32 x m), rotl_toNat, show 32 - n = m by omega]

theorem RotL_any (w : World) (x : UInt32) (n : Nat) (h1 : 1 ≤ n) (h2 : n ≤ 31) :
    Calls Tryd.prog 24 #[.int .u32 (x.toNat : Int), .int .i64 (n : Int)] w fun e w' => e = .returned (.int .u32 ((rotl x n).toNat : Int)) ∧ w = w' := by
  have hx := x.toNat_lt
  obtain ⟨m, hm⟩ : ∃ m, m + n = 32 := ⟨32 - n, by omega⟩
  have hs := and31 n h2
  have hs2 : IntKind.u64.wrap (32 - (n : Int)) = (m : Int) := by rw [IntKind.wrap_u64]; omega
  go_enter Tryd.func24, Tryd.ntmps24
  go_wp2
  go_ret
  exact ⟨ret_int (rotl_int x n m hm), rfl⟩

def zeroW : List UInt32 := List.replicate 16 0
theorem zeroW_length : zeroW.length = 16 := by simp [zeroW]
theorem Tryd.zeroWs : (Tryd.prog.info? 24).map (·.zero) = some (some (.agg (wordsC zeroW))) := by kernel_rfl
theorem Tryd.sizeWs (l : List UInt32) (h : l.length = 16) : (Tryd.prog.info? 24).map (·.size) = some (wordsC l).size := by
  rw [wordsC_size, h]
  exact (by kernel_rfl : (Tryd.prog.info? 24).map (·.size) = some 16)
theorem wordsC_same {a b : List UInt32} {n : Nat} (ha : a.length = n) (hb : b.length = n) : (wordsC a).size = (wordsC b).size := by rw [wordsC_size, wordsC_size, ha, hb]

set_option maxHeartbeats 1000000 in
theorem stir_any (w : World) (ws : List UInt32) (hl : ws.length = 16) (s p t n : Nat) (hs : s < 16) (hp : p < 16) (ht : t < 16) (h1 : 1 ≤ n) (h2 : n ≤ 31) :
    Calls Tryd.prog 17 #[.agg (wordsC ws), .int .i64 (s : Int), .int .i64 (p : Int), .int .i64 (t : Int), .int .i64 (n : Int)] w (RetV w (.agg (wordsC (stirW ws s p t n)))) := by
  obtain ⟨fin, hfin⟩ : ∃ fin, fin = stirW ws s p t n := ⟨_, rfl⟩
  have hfl : fin.length = 16 := by rw [hfin, stirW_length, hl]
  rw [← hfin]
  have HF := Lib.hid hfin
  have HFL := Lib.hid hfl
  have HL := Lib.hid hl
  clear hfin hl hfl
  go_enter Tryd.func17, Tryd.ntmps17
  go_wp2_with (first | ((with_reducible refine wpList_box_row (o := ⟨some 5, _, _, _, _, _⟩) rfl 24 (.tmp 0) rfl (wordsC ws) (by with_unfolding_all rfl) ?_); intro g1 w1 n1) | ((with_reducible refine wpList_alloc_row (o := ⟨some 10, _, _, _, _, _⟩) rfl 24 rfl (wordsC zeroW) Tryd.zeroWs ?_); intro g2 w2 n2))
  have hr1 : RowAt w2 g1 24 (wordsC ws) := n1.row.kept n2.below
  have c1 := wordsC_cell hr1 s (by rw [HL.out]; omega)
  have c2 := wordsC_cell hr1 p (by rw [HL.out]; omega)
  have hfz := hr1.frozen s
  obtain ⟨xs, hxs⟩ : ∃ xs, xs = ws.getD s 0 + ws.getD p 0 := ⟨_, rfl⟩
  have hsum : IntKind.u32.wrap (((ws.getD s 0).toNat : Int) + ((ws.getD p 0).toNat : Int)) = (xs.toNat : Int) := by rw [add32, hxs]
  have hput := hr1.put s (.int .u32 (xs.toNat : Int))
  rw [wordsC_put] at hput
  obtain ⟨vs, hvs⟩ : ∃ vs, vs = ws.set s xs := ⟨_, rfl⟩
  rw [← hvs] at hput
  have HVL : Hid (vs.length = 16) := by show _ = _; rw [hvs, List.length_set, HL.out]
  have HP := Lib.hid hput
  have HVS := Lib.hid hvs
  have HF2 : Hid (fin = vs.set t (rotl (vs.getD t 0 ^^^ vs.getD s 0) n)) := by
    show _ = _
    rw [HF.out, hvs, hxs]
    rfl
  have hg1 : w.heap.size ≤ g1 := Nat.le_of_eq n1.spot.symm
  have hg2 : w.heap.size ≤ g2 := by rw [n2.spot]; exact n1.below.size
  have hne : g2 ≠ g1 := by have := n2.spot; have := n1.row.lt; omega
  have HB : Hid (Below w.heap.size w w2) := below_size n1.below n2.below
  have HR2 : Hid (RowAt w2 g2 _ _) := n2.row
  generalize ws.getD s 0 = x1 at c1 hsum
  generalize ws.getD p 0 = x2 at c2 hsum
  have hq1 : (s : Int) < 16 := by omega
  have hq2 : (p : Int) < 16 := by omega
  have hq3 : (t : Int) < 16 := by omega
  have HNE := Lib.hid hne
  clear hput hvs hxs hr1 n1 n2 hne HF HVS
  go_still_tail 8, (by kernel_rfl)
  change wpList _ _ _ _ _ w2.drew
  have hcell : w2.drew.cell? ⟨g1, s, none⟩ = some (.int .u32 (x1.toNat : Int)) := c1
  have hfz2 : w2.drew.frozen? ⟨g1, s, none⟩ = false := hfz
  clear c1 c2 hfz hsum
  go_wp2_with fail
  clear hcell hfz2
  have R3 : Hid (RowAt (w2.setCell ⟨g1, s, none⟩ (.int .u32 (xs.toNat : Int))).drew g1 24 (wordsC vs)) := HP.out.drew
  have B3 : Hid (Below w.heap.size w (w2.setCell ⟨g1, s, none⟩ (.int .u32 (xs.toNat : Int))).drew) := (HB.out.setCell hg1 _).drew
  have Z3 : Hid (RowAt (w2.setCell ⟨g1, s, none⟩ (.int .u32 (xs.toNat : Int))).drew g2 24 (wordsC zeroW)) := (HR2.out.far (by show g2 ≠ g1; exact HNE.out) _).drew
  clear HP HB HR2
  generalize (w2.setCell ⟨g1, s, none⟩ (.int .u32 (xs.toNat : Int))).drew = w3 at R3 B3 Z3 ⊢
  have c3 := wordsC_cell R3.out t (by rw [HVL.out]; omega)
  have c4 := wordsC_cell R3.out s (by rw [HVL.out]; omega)
  have hfz := R3.out.frozen t
  obtain ⟨z, hz⟩ : ∃ z, z = vs.getD t 0 ^^^ vs.getD s 0 := ⟨_, rfl⟩
  have hxor : bits .xor .u32 ((vs.getD t 0).toNat : Int) ((vs.getD s 0).toNat : Int) = (z.toNat : Int) := by rw [xor32, hz]
  have hput := R3.out.put t (.int .u32 ((rotl z n).toNat : Int))
  rw [wordsC_put] at hput
  have hfin : vs.set t (rotl z n) = fin := by
    rw [HF2.out, hz]
  rw [hfin] at hput
  have HP := Lib.hid hput
  clear hput hfin hz
  generalize vs.getD t 0 = y1 at c3 hxor
  generalize vs.getD s 0 = y2 at c4 hxor
  go_still_tail 11, (by kernel_rfl)
  still_call ((RotL_any _ z n h1 h2).mono fun _ _ h => ⟨h.1, h.2.symm⟩)
  repeat still_step
  refine wpStill_nil ?_
  change wpList _ _ _ _ _ w3.drew
  have hcell : w3.drew.cell? ⟨g1, t, none⟩ = some (.int .u32 (y1.toNat : Int)) := c3
  have hfz2 : w3.drew.frozen? ⟨g1, t, none⟩ = false := hfz
  clear c3 c4 hxor hfz
  have R4 : Hid (RowAt (w3.setCell ⟨g1, t, none⟩ (.int .u32 ((rotl z n).toNat : Int))).drew g1 24 (wordsC fin)) := HP.out.drew
  have B4 : Hid (Below w.heap.size w (w3.setCell ⟨g1, t, none⟩ (.int .u32 ((rotl z n).toNat : Int))).drew) := (B3.out.setCell hg1 _).drew
  have Z4 : Hid (RowAt (w3.setCell ⟨g1, t, none⟩ (.int .u32 ((rotl z n).toNat : Int))).drew g2 24 (wordsC zeroW)) := (Z3.out.far (by show g2 ≠ g1; exact HNE.out) _).drew
  clear HP B3 R3 Z3
  go_wp2_with (first | (with_reducible refine wpList_load_row (o := ⟨some 30, _, _, _, _, _⟩) rfl 24 (.tmp 5) rfl g1 (by with_unfolding_all rfl) 24 (wordsC fin) (0, 0) (.array 16 22) (by with_unfolding_all exact R4.out) Tryd.underlying24 rfl (Tryd.sizeWs fin HFL.out) ?_) | ((with_reducible refine wpList_store_row (o := ⟨none, _, _, _, _, _⟩) rfl 24 (.tmp 10) (.tmp 30) rfl g2 24 _ (wordsC fin) (by with_unfolding_all rfl) (by with_unfolding_all rfl) Z4.out (wordsC_same zeroW_length HFL.out) (Tryd.sizeWs fin HFL.out) (wordsC_one fin) ?_); intro w5 p5))
  refine bodyPost_ret (results_cell_row rfl _ _ g2 24 (wordsC fin) (0, 0) (.array 16 22) rfl p5.row Tryd.underlying24 rfl (Tryd.sizeWs fin HFL.out)) rfl ⟨rfl, ?_⟩
  exact p5.below B4.out B4.out.size hg2

theorem Row_lt {w w0 : World} {g : Nat} {t : TypeId} {cs : Array Value} (h : NewRow w g t cs w0) : g < w0.heap.size := h.row.lt

set_option maxHeartbeats 1000000 in
theorem Quarter_any (w : World) (ws : List UInt32) (hl : ws.length = 16) (a b c d : Int) :
    Calls Tryd.prog 10 #[.agg (wordsC ws), .int .i64 a, .int .i64 b, .int .i64 c, .int .i64 d] w (RetV w (.agg (wordsC (quarterW ws (low4 a) (low4 b) (low4 c) (low4 d))))) := by
  obtain ⟨x1, hx1⟩ : ∃ x1, x1 = stirW ws (low4 a) (low4 b) (low4 d) 16 := ⟨_, rfl⟩
  obtain ⟨x2, hx2⟩ : ∃ x2, x2 = stirW x1 (low4 c) (low4 d) (low4 b) 12 := ⟨_, rfl⟩
  obtain ⟨x3, hx3⟩ : ∃ x3, x3 = stirW x2 (low4 a) (low4 b) (low4 d) 8 := ⟨_, rfl⟩
  obtain ⟨x4, hx4⟩ : ∃ x4, x4 = stirW x3 (low4 c) (low4 d) (low4 b) 7 := ⟨_, rfl⟩
  have hfin : quarterW ws (low4 a) (low4 b) (low4 c) (low4 d) = x4 := by rw [hx4, hx3, hx2, hx1]; rfl
  rw [hfin]
  have L0 := Lib.hid hl
  have L1 : Hid (x1.length = 16) := by show _ = _; rw [hx1, stirW_length, hl]
  have L2 : Hid (x2.length = 16) := by show _ = _; rw [hx2, stirW_length, L1.out]
  have L3 : Hid (x3.length = 16) := by show _ = _; rw [hx3, stirW_length, L2.out]
  have L4 : Hid (x4.length = 16) := by show _ = _; rw [hx4, stirW_length, L3.out]
  have ha := and15 a
  have hb := and15 b
  have hc := and15 c
  have hd := and15 d
  have la := low4_lt a
  have lb := low4_lt b
  have lc := low4_lt c
  have ld := low4_lt d
  generalize low4 a = a' at *
  generalize low4 b = b' at *
  generalize low4 c = c' at *
  generalize low4 d = d' at *
  have s1 := fun x => stir_any x ws L0.out a' b' d' 16 la lb ld (by omega) (by omega)
  rw [← hx1] at s1
  have s2 := fun x => stir_any x x1 L1.out c' d' b' 12 lc ld lb (by omega) (by omega)
  rw [← hx2] at s2
  have s3 := fun x => stir_any x x2 L2.out a' b' d' 8 la lb ld (by omega) (by omega)
  rw [← hx3] at s3
  have s4 := fun x => stir_any x x3 L3.out c' d' b' 7 lc ld lb (by omega) (by omega)
  rw [← hx4] at s4
  have S1 := Lib.hid s1
  have S2 := Lib.hid s2
  have S3 := Lib.hid s3
  have S4 := Lib.hid s4
  clear s1 s2 s3 s4 hfin hx1 hx2 hx3 hx4 hl
  go_enter Tryd.func10, Tryd.ntmps10
  go_wp2_with (first
    | ((with_reducible refine wpList_box_row (o := ⟨some 5, _, _, _, _, _⟩) rfl 24 (.tmp 0) rfl (wordsC ws) (by with_unfolding_all rfl) ?_); intro g1 w1 n1)
    | ((with_reducible refine wpList_alloc_row (o := ⟨some 10, _, _, _, _, _⟩) rfl 24 rfl (wordsC zeroW) Tryd.zeroWs ?_); intro g2 w2 n2)
    | (with_reducible refine wpList_load_row (o := ⟨some 19, _, _, _, _, _⟩) rfl 24 (.tmp 5) rfl g1 (by with_unfolding_all rfl) 24 (wordsC ws) (0, 0) (.array 16 22) (by with_unfolding_all exact n1.row.kept n2.below) Tryd.underlying24 rfl (Tryd.sizeWs ws L0.out) ?_))
  refine (S1.out _).mono ?_
  rintro e w3 ⟨rfl, b3⟩
  have hg1 : w.heap.size ≤ g1 := Nat.le_of_eq n1.spot.symm
  have hg2 : w.heap.size ≤ g2 := by rw [n2.spot]; exact n1.below.size
  have hne : g2 ≠ g1 := by have := n2.spot; have := n1.row.lt; omega
  have HNE := Lib.hid hne
  have B3 : Hid (Below w.heap.size w w3) := below_size (below_size n1.below n2.below) b3
  have R3 : Hid (RowAt w3 g1 24 (wordsC ws)) := (n1.row.kept n2.below).kept b3
  have Z3 : Hid (RowAt w3 g2 24 (wordsC zeroW)) := n2.row.kept b3
  clear n1 n2 b3 hne ha hb hc hd
  go_wp2_with (first
    | ((with_reducible refine wpList_store_row (o := ⟨none, _, _, _, _, _⟩) rfl 24 (.tmp 5) (.tmp 23) rfl g1 24 _ (wordsC x1) (by with_unfolding_all rfl) (by with_unfolding_all rfl) R3.out (wordsC_same L0.out L1.out) (Tryd.sizeWs x1 L1.out) (wordsC_one x1) ?_); intro w4 p4)
    | (with_reducible refine wpList_load_row (o := ⟨some 24, _, _, _, _, _⟩) rfl 24 (.tmp 5) rfl g1 (by with_unfolding_all rfl) 24 (wordsC x1) (0, 0) (.array 16 22) (by with_unfolding_all exact p4.row) Tryd.underlying24 rfl (Tryd.sizeWs x1 L1.out) ?_))
  refine (S2.out _).mono ?_
  rintro e w5 ⟨rfl, b5⟩
  have B5 : Hid (Below w.heap.size w w5) := below_size (p4.below B3.out B3.out.size hg1) b5
  have R5 : Hid (RowAt w5 g1 24 (wordsC x1)) := p4.row.kept b5
  have Z5 : Hid (RowAt w5 g2 24 (wordsC zeroW)) := (Z3.out.grown p4.grown (by intro h; injection h with h; exact HNE.out h)).kept b5
  clear p4 b5 B3 R3 Z3
  go_wp2_with (first
    | ((with_reducible refine wpList_store_row (o := ⟨none, _, _, _, _, _⟩) rfl 24 (.tmp 5) (.tmp 28) rfl g1 24 _ (wordsC x2) (by with_unfolding_all rfl) (by with_unfolding_all rfl) R5.out (wordsC_same L1.out L2.out) (Tryd.sizeWs x2 L2.out) (wordsC_one x2) ?_); intro w6 p6)
    | (with_reducible refine wpList_load_row (o := ⟨some 29, _, _, _, _, _⟩) rfl 24 (.tmp 5) rfl g1 (by with_unfolding_all rfl) 24 (wordsC x2) (0, 0) (.array 16 22) (by with_unfolding_all exact p6.row) Tryd.underlying24 rfl (Tryd.sizeWs x2 L2.out) ?_))
  refine (S3.out _).mono ?_
  rintro e w7 ⟨rfl, b7⟩
  have B7 : Hid (Below w.heap.size w w7) := below_size (p6.below B5.out B5.out.size hg1) b7
  have R7 : Hid (RowAt w7 g1 24 (wordsC x2)) := p6.row.kept b7
  have Z7 : Hid (RowAt w7 g2 24 (wordsC zeroW)) := (Z5.out.grown p6.grown (by intro h; injection h with h; exact HNE.out h)).kept b7
  clear p6 b7 B5 R5 Z5
  go_wp2_with (first
    | ((with_reducible refine wpList_store_row (o := ⟨none, _, _, _, _, _⟩) rfl 24 (.tmp 5) (.tmp 33) rfl g1 24 _ (wordsC x3) (by with_unfolding_all rfl) (by with_unfolding_all rfl) R7.out (wordsC_same L2.out L3.out) (Tryd.sizeWs x3 L3.out) (wordsC_one x3) ?_); intro w8 p8)
    | (with_reducible refine wpList_load_row (o := ⟨some 34, _, _, _, _, _⟩) rfl 24 (.tmp 5) rfl g1 (by with_unfolding_all rfl) 24 (wordsC x3) (0, 0) (.array 16 22) (by with_unfolding_all exact p8.row) Tryd.underlying24 rfl (Tryd.sizeWs x3 L3.out) ?_))
  refine (S4.out _).mono ?_
  rintro e w9 ⟨rfl, b9⟩
  have B9 : Hid (Below w.heap.size w w9) := below_size (p8.below B7.out B7.out.size hg1) b9
  have Z9 : Hid (RowAt w9 g2 24 (wordsC zeroW)) := (Z7.out.grown p8.grown (by intro h; injection h with h; exact HNE.out h)).kept b9
  clear p8 b9 B7 R7 Z7
  go_wp2_with ((with_reducible refine wpList_store_row (o := ⟨none, _, _, _, _, _⟩) rfl 24 (.tmp 10) (.tmp 38) rfl g2 24 _ (wordsC x4) (by with_unfolding_all rfl) (by with_unfolding_all rfl) Z9.out (wordsC_same zeroW_length L4.out) (Tryd.sizeWs x4 L4.out) (wordsC_one x4) ?_); intro w10 p10)
  refine bodyPost_ret (results_cell_row rfl _ _ g2 24 (wordsC x4) (0, 0) (.array 16 22) rfl p10.row Tryd.underlying24 rfl (Tryd.sizeWs x4 L4.out)) rfl ⟨rfl, ?_⟩
  exact p10.below B9.out B9.out.size hg2
end Go.Proofs.YtplaoofclgpeeaaDoor
