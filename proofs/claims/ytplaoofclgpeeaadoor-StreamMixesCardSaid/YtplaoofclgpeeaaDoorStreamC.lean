/-
  Contract of stream.Block: a block of the stream. Conditions: the table of quarters holds what the program's text lays.
-/
import Derived.Test.YtplaoofclgpeeaaDoorStreamB
namespace Go.Proofs.YtplaoofclgpeeaaDoor
open Go.RowKit
set_option linter.unusedVariables false
set_option maxRecDepth 20000

/-- Block g is just the cells cs (a table of the program's text). -/
def TabAt (w : World) (g : Nat) (cs : Array Value) : Prop := ∃ t fr, w.heap[g]? = some (.cells cs t fr)
theorem TabAt.lt {w : World} {g : Nat} {cs : Array Value} (h : TabAt w g cs) : g < w.heap.size := by
  obtain ⟨t, fr, h⟩ := h
  rcases Nat.lt_or_ge g w.heap.size with hlt | hge
  · exact hlt
  · rw [Array.getElem?_eq_none hge] at h; cases h
theorem TabAt.below {w w' : World} {g : Nat} {cs : Array Value} (h : TabAt w g cs) (hb : Below w.heap.size w w') : TabAt w' g cs := by
  have hl := h.lt
  obtain ⟨t, fr, h⟩ := h
  exact ⟨t, fr, (hb.block g hl).trans h⟩
theorem TabAt.grown {w w' : World} {g : Nat} {cs : Array Value} {row : Option Nat} (h : TabAt w g cs) (hb : w.grownBy w' row) (hg : some g ≠ row) : TabAt w' g cs := by
  have hl := h.lt
  obtain ⟨t, fr, h⟩ := h
  exact ⟨t, fr, (hb.block g hl hg).trans h⟩
theorem TabAt.of_var {P : Program} {w : World} {name : String} {g : Nat} {cs : Array Value} (hg : P.globalNamed name = some g) (h : w.var? P name = some cs) : TabAt w g cs := by
  unfold World.var? at h
  rw [hg] at h
  simp only [Option.bind_some] at h
  split at h
  · rename_i cs' t fr hc
    injection h with h
    subst h
    exact ⟨t, fr, hc⟩
  · cases h

def quartersC : Array Value := (quartersT.flatten.map fun n : Nat => Value.int .i64 (n : Int)).toArray
def quarterC (k : Nat) : Array Value := #[.int .i64 ((quarterAt k).getD 0 0 : Nat), .int .i64 ((quarterAt k).getD 1 0 : Nat), .int .i64 ((quarterAt k).getD 2 0 : Nat), .int .i64 ((quarterAt k).getD 3 0 : Nat)]
theorem quarters_cut (j : Nat) (h : j < 8) : quartersC.extract (j * 4) (j * 4 + 4) = quarterC j := by
  have : j = 0 ∨ j = 1 ∨ j = 2 ∨ j = 3 ∨ j = 4 ∨ j = 5 ∨ j = 6 ∨ j = 7 := by omega
  rcases this with rfl | rfl | rfl | rfl | rfl | rfl | rfl | rfl <;> rfl
theorem quarterAt_add (i j : Nat) (h : j < 8) : quarterAt (8 * i + j) = quarterAt j := by
  unfold quarterAt
  rw [show (8 * i + j) % 8 = j % 8 by omega]
theorem quarterAt_lt (j : Nat) (h : j < 8) : (quarterAt j).getD 0 0 < 16 ∧ (quarterAt j).getD 1 0 < 16 ∧ (quarterAt j).getD 2 0 < 16 ∧ (quarterAt j).getD 3 0 < 16 := by
  have : j = 0 ∨ j = 1 ∨ j = 2 ∨ j = 3 ∨ j = 4 ∨ j = 5 ∨ j = 6 ∨ j = 7 := by omega
  rcases this with rfl | rfl | rfl | rfl | rfl | rfl | rfl | rfl <;> decide
theorem runS_step (w : List UInt32) (i j : Nat) (h : j < 8) : runS w (8 * i + (j + 1)) = quarterW (runS w (8 * i + j)) (low4 ((quarterAt j).getD 0 0 : Nat)) (low4 ((quarterAt j).getD 1 0 : Nat)) (low4 ((quarterAt j).getD 2 0 : Nat)) (low4 ((quarterAt j).getD 3 0 : Nat)) := by
  obtain ⟨h0, h1, h2, h3⟩ := quarterAt_lt j h
  rw [low4_nat _ h0, low4_nat _ h1, low4_nat _ h2, low4_nat _ h3, ← Nat.add_assoc, runS, quarterAt_add i j h]

theorem quarter_next (w : List UInt32) (i j : Nat) (h : j < 8) : ∃ a b c d : Nat, quarterC j = #[.int .i64 a, .int .i64 b, .int .i64 c, .int .i64 d] ∧ quarterW (runS w (8 * i + j)) (low4 a) (low4 b) (low4 c) (low4 d) = runS w (8 * i + (j + 1)) :=
  ⟨_, _, _, _, rfl, (runS_step w i j h).symm⟩
theorem four_cells {w : World} {g : Nat} {t : TypeId} {a b c d : Value} (h : RowAt w g t #[a, b, c, d]) :
    w.cell? ⟨g, 0, none⟩ = some a ∧ w.cell? ⟨g, 1, none⟩ = some b ∧ w.cell? ⟨g, 2, none⟩ = some c ∧ w.cell? ⟨g, 3, none⟩ = some d := ⟨h.cell 0, h.cell 1, h.cell 2, h.cell 3⟩

/-- The first k sums. -/
def summed (a b : List UInt32) (k : Nat) : List UInt32 := (List.zipWith (· + ·) a b).take k ++ a.drop k
theorem summed_length (a b : List UInt32) (n k : Nat) (h : a.length = n) (hl : b.length = n) (hk : k ≤ n) : (summed a b k).length = n := by simp [summed, h, hl]; omega
theorem summed_zero (a b : List UInt32) : summed a b 0 = a := by simp [summed]
theorem summed_all (a b : List UInt32) (n : Nat) (h : a.length = n) (hl : b.length = n) : summed a b n = List.zipWith (· + ·) a b := by
  unfold summed
  rw [List.take_of_length_le (by simp [h, hl]), List.drop_of_length_le (by omega), List.append_nil]
theorem summed_get (a b : List UInt32) (n k : Nat) (h : a.length = n) (hl : b.length = n) (hk : k < n) : (summed a b k).getD k 0 = a.getD k 0 := by
  unfold summed
  simp only [List.getD_eq_getElem?_getD]
  rw [List.getElem?_append_right (by simp [h, hl]; omega)]
  simp [h, hl, Nat.min_eq_left (Nat.le_of_lt hk)]
theorem summed_step (a b : List UInt32) (n k : Nat) (h : a.length = n) (hl : b.length = n) (hk : k < n) : (summed a b k).set k (a.getD k 0 + b.getD k 0) = summed a b (k + 1) := by
  unfold summed
  have hz : (List.zipWith (· + ·) a b).length = n := by simp [h, hl]
  rw [List.set_append_right _ _ (by simp [h, hl]; omega), List.take_succ_eq_append_getElem (by omega), List.append_assoc]
  congr 1
  rw [show k - ((List.zipWith (· + ·) a b).take k).length = 0 by simp [h, hl]; omega, List.drop_eq_getElem_cons (l := a) (i := k) (by omega), List.set_cons_zero]
  simp [h, hl, hk]

theorem Tryd.zero4 : (Tryd.prog.info? 44).map (·.zero) = some (some (.agg #[.int .i64 0, .int .i64 0, .int .i64 0, .int .i64 0])) := by kernel_rfl
theorem Tryd.size4i (k : Nat) : (Tryd.prog.info? 44).map (·.size) = some (quarterC k).size := (by kernel_rfl : (Tryd.prog.info? 44).map (·.size) = some 4)
theorem Tryd.size4 : (Tryd.prog.info? 44).map (·.size) = some 4 := by kernel_rfl
theorem Tryd.sizeQ : (Tryd.prog.info? 45).map (·.size) = some quartersC.size := by kernel_rfl
theorem quarterC_one (k : Nat) : ∀ u ∈ (quarterC k).toList, u.oneCell' = true := by
  intro u hu
  simp only [quarterC, List.mem_cons, List.not_mem_nil, or_false] at hu
  rcases hu with rfl | rfl | rfl | rfl <;> rfl

def Quar (w : World) : Prop := TabAt w 0 quartersC

set_option maxHeartbeats 2000000 in
theorem Block_any (w : World) (hq : Quar w) (key nonce : List UInt8) (ctr : UInt32) (hk : key.length = 32) (hn : nonce.length = 12) :
    Calls Tryd.prog 12 #[keyV key, .int .u32 (ctr.toNat : Int), keyV nonce] w (RetV w (keyV (blockS key ctr nonce))) := by
  obtain ⟨fin, hfin⟩ : ∃ fin, fin = blockS key ctr nonce := ⟨_, rfl⟩
  have HFL : Hid (fin.length = 64) := by show _ = _; rw [hfin, blockS_length]
  rw [← hfin]
  obtain ⟨fst, hfst⟩ : ∃ fst, fst = firstS key ctr nonce := ⟨_, rfl⟩
  have L0 : Hid (fst.length = 16) := by show _ = _; rw [hfst, firstS_length]
  have HF : Hid (fin = bytesLow (List.zipWith (· + ·) (runS fst 80) fst)) := by show _ = _; rw [hfin, hfst]; rfl
  have hbeg := fun x => begin_any x key nonce ctr hk hn
  rw [← hfst] at hbeg
  have HBEG := Lib.hid hbeg
  have HK := Lib.hid (Tryd.sizeKey key hk)
  have HN : Hid ((Tryd.prog.info? 27).map (·.size) = some (keyC nonce).size) := by
    show _ = _
    rw [keyC_size, hn]
    exact (by kernel_rfl : (Tryd.prog.info? 27).map (·.size) = some 12)
  have HQ := Lib.hid hq
  have LR : Hid (∀ k, (runS fst k).length = 16) := fun k => by rw [runS_length, L0.out]
  clear hfin hfst hbeg hk hn hq
  go_enter Tryd.func12, Tryd.ntmps12
  go_wp2_with (first
    | ((with_reducible refine wpList_box_row (o := ⟨some 3, _, _, _, _, _⟩) rfl 26 (.tmp 0) rfl (keyC key) (by with_unfolding_all rfl) ?_); intro g1 w1 n1)
    | ((with_reducible refine wpList_box_row (o := ⟨some 5, _, _, _, _, _⟩) rfl 27 (.tmp 2) rfl (keyC nonce) (by with_unfolding_all rfl) ?_); intro g2 w2 n2)
    | ((with_reducible refine wpList_alloc_row (o := ⟨some 6, _, _, _, _, _⟩) rfl 31 rfl (keyC zero64B) Tryd.zero64B ?_); intro g3 w3 n3)
    | (with_reducible refine wpList_load_row (o := ⟨some 12, _, _, _, _, _⟩) rfl 26 (.tmp 3) rfl g1 (by with_unfolding_all rfl) 26 (keyC key) (0, 0) (.array 32 5) (by with_unfolding_all exact (n1.row.kept n2.below).kept n3.below) Tryd.underlying26 rfl HK.out ?_)
    | (with_reducible refine wpList_load_row (o := ⟨some 14, _, _, _, _, _⟩) rfl 27 (.tmp 5) rfl g2 (by with_unfolding_all rfl) 27 (keyC nonce) (0, 0) (.array 12 5) (by with_unfolding_all exact n2.row.kept n3.below) Tryd.underlying27 rfl HN.out ?_))
  refine (HBEG.out _).mono ?_
  rintro e w4 ⟨rfl, b4⟩
  have hg3 : w.heap.size ≤ g3 := by rw [n3.spot]; have := n1.below.size; have := n2.below.size; omega
  have B4 : Hid (Below w.heap.size w w4) := below_size (below_size (below_size n1.below n2.below) n3.below) b4
  have R4 : Hid (RowAt w4 g3 31 (keyC zero64B)) := n3.row.kept b4
  have Q4 : Hid (Quar w4) := HQ.out.below B4.out
  have l3 : g3 < w4.heap.size := R4.out.lt
  clear n1 n2 n3 b4 HBEG HK HN HQ
  go_wp2_with (first
    | ((with_reducible refine wpList_alloc_row (o := ⟨some 7, _, _, _, _, _⟩) rfl 24 rfl (wordsC zeroW) Tryd.zeroWs ?_); intro g5 w5 n5)
    | ((with_reducible refine wpList_store_row (o := ⟨none, _, _, _, _, _⟩) rfl 24 (.tmp 7) (.tmp 15) rfl g5 24 _ (wordsC fst) (by with_unfolding_all rfl) (by with_unfolding_all rfl) n5.row (wordsC_same zeroW_length L0.out) (Tryd.sizeWs fst L0.out) (wordsC_one fst) ?_); intro w6 p6)
    | (with_reducible refine wpList_load_row (o := ⟨some 16, _, _, _, _, _⟩) rfl 24 (.tmp 7) rfl g5 (by with_unfolding_all rfl) 24 (wordsC fst) (0, 0) (.array 16 22) (by with_unfolding_all exact p6.row) Tryd.underlying24 rfl (Tryd.sizeWs fst L0.out) ?_)
    | ((with_reducible refine wpList_alloc_row (o := ⟨some 8, _, _, _, _, _⟩) rfl 24 rfl (wordsC zeroW) Tryd.zeroWs ?_); intro g7 w7 n7)
    | ((with_reducible refine wpList_store_row (o := ⟨none, _, _, _, _, _⟩) rfl 24 (.tmp 8) (.tmp 16) rfl g7 24 _ (wordsC fst) (by with_unfolding_all rfl) (by with_unfolding_all rfl) n7.row (wordsC_same zeroW_length L0.out) (Tryd.sizeWs fst L0.out) (wordsC_one fst) ?_); intro w8 p8))
  have e5 := n5.spot
  have e7 := n7.spot
  have z5 := n5.size
  have z6 := p6.size
  have z4 := B4.out.size
  have hg5 : w.heap.size ≤ g5 := by omega
  have hg7 : w.heap.size ≤ g7 := by omega
  have h57 : g5 ≠ g7 := by omega
  have h37 : g3 ≠ g7 := by omega
  have B5 : Below w.heap.size w w5 := below_size B4.out n5.below
  have B6 : Below w.heap.size w w6 := p6.below B5 B5.size hg5
  have B7 : Below w.heap.size w w7 := below_size B6 n7.below
  have B8 : Hid (Below w.heap.size w w8) := p8.below B7 B7.size hg7
  have R38 : Hid (RowAt w8 g3 31 (keyC zero64B)) := (((R4.out.kept n5.below).grown p6.grown (by intro h; injection h with h; omega)).kept n7.below).grown p8.grown (by intro h; injection h with h; omega)
  have R58 : Hid (RowAt w8 g5 24 (wordsC fst)) := (p6.row.kept n7.below).grown p8.grown (by intro h; injection h with h; omega)
  have R78 : Hid (RowAt w8 g7 24 (wordsC (runS fst (8 * 0)))) := p8.row
  have Q8 : Hid (Quar w8) := by
    obtain ⟨t, fr, hq⟩ := Q4.out
    have hl := Q4.out.lt
    exact ⟨t, fr, (p8.grown.block _ (by have := n7.size; omega) (by intro h; injection h with h; omega)).trans ((n7.below.block _ (by omega)).trans ((p6.grown.block _ (by omega) (by intro h; injection h with h; omega)).trans ((n5.below.block _ hl).trans hq)))⟩
  have hq7 : 0 < g7 := by have := Q4.out.lt; omega
  clear n5 p6 n7 p8 e5 e7 z5 z6 z4 B5 B6 B7 R4 Q4 B4
  go_loopw [17] (fun i wr => ∃ k : Nat, k ≤ 10 ∧ i = .int .i64 k ∧ RowAt wr g3 31 (keyC zero64B) ∧ RowAt wr g5 24 (wordsC fst) ∧ RowAt wr g7 24 (wordsC (runS fst (8 * k))) ∧ Quar wr ∧ Below w.heap.size w wr) (fun i _ => 10 - (intOf i).toNat)
  case atStart => exact ⟨0, by omega, rfl, R38.out, R58.out, R78.out, Q8.out, B8.out⟩
  case round =>
    clear R38 R58 R78 Q8 B8
    obtain ⟨k, hk, rfl, hr3, hr5, hr7, hq, hb⟩ := hrel
    have R3 := Lib.hid hr3
    have R5 := Lib.hid hr5
    have R7 := Lib.hid hr7
    have HQ := Lib.hid hq
    have HB := Lib.hid hb
    clear hr3 hr5 hr7 hq hb
    by_cases hlt : k < 10
    · obtain ⟨qt, qf, hqq⟩ := HQ.out
      have HQQ := Lib.hid hqq
      clear hqq
      go_wp2_with (with_reducible refine wpList_load_row (o := ⟨some 19, _, _, _, _, _⟩) rfl 45 (.global 0) rfl 0 (by with_unfolding_all rfl) qt quartersC qf (.array 8 44) (by with_unfolding_all exact HQQ.out) Tryd.underlying45 rfl Tryd.sizeQ ?_)
      go_loopw [20] (fun i wr => ∃ j : Nat, j ≤ 8 ∧ i = .int .i64 j ∧ RowAt wr g3 31 (keyC zero64B) ∧ RowAt wr g5 24 (wordsC fst) ∧ RowAt wr g7 24 (wordsC (runS fst (8 * k + j))) ∧ Quar wr ∧ Below w.heap.size w wr) (fun i _ => 8 - (intOf i).toNat)
      case atStart => exact ⟨0, by omega, rfl, R3.out, R5.out, R7.out, HQ.out, HB.out⟩
      case round =>
        clear R3 R5 R7 HQ HB HQQ
        obtain ⟨j, hj, rfl, hr3, hr5, hr7, hq, hb⟩ := hrel
        have R3 := Lib.hid hr3
        have R5 := Lib.hid hr5
        have R7 := Lib.hid hr7
        have HQ := Lib.hid hq
        have HB := Lib.hid hb
        clear hr3 hr5 hr7 hq hb
        by_cases hlj : j < 8
        · have hix := fun x : World => run_index_arr_agg (P := Tryd.prog) x 45 44 3 8 4 4 quartersC .i64 j Tryd.underlying45 Tryd.underlying44 Tryd.size4 hlj
          rw [quarters_cut j hlj] at hix
          obtain ⟨q0, q1, q2, q3, hqc, hqs⟩ := quarter_next fst k j hlj
          have HQA := fun x => Quarter_any x (runS fst (8 * k + j)) (LR.out _) q0 q1 q2 q3
          rw [hqs] at HQA
          have HQB := Lib.hid HQA
          have HQC := Lib.hid hqc
          have HLJ := Lib.hid (LR.out (8 * k + j))
          have HLN := Lib.hid (LR.out (8 * k + (j + 1)))
          clear HQA hqc hqs
          generalize runS fst (8 * k + j) = va at *
          generalize hvb : runS fst (8 * k + (j + 1)) = vb at *
          have HVB := Lib.hid hvb
          clear hvb
          go_wp2_with (first
            | ((with_reducible refine wpList_alloc_row (o := ⟨some 10, _, _, _, _, _⟩) rfl 44 rfl #[.int .i64 0, .int .i64 0, .int .i64 0, .int .i64 0] Tryd.zero4 ?_); intro g1 w1 n1)
            | ((with_reducible refine wpList_store_row (o := ⟨none, _, _, _, _, _⟩) rfl 44 (.tmp 10) (.tmp 22) rfl g1 44 _ (quarterC j) (by with_unfolding_all rfl) (by with_unfolding_all rfl) n1.row rfl (Tryd.size4i j) (quarterC_one j) ?_); intro w2 p2; have hr := p2.row; rw [HQC.out] at hr; obtain ⟨d0, d1, d2, d3⟩ := four_cells hr; clear hr)
            | (with_reducible refine wpList_load_row (o := ⟨some 23, _, _, _, _, _⟩) rfl 24 (.tmp 8) rfl g7 (by with_unfolding_all rfl) 24 (wordsC va) (0, 0) (.array 16 22) (by with_unfolding_all exact (R7.out.kept n1.below).grown p2.grown (by intro h; injection h with h; have := n1.spot; have := R7.out.lt; omega)) Tryd.underlying24 rfl (Tryd.sizeWs va HLJ.out) ?_))
          refine (HQB.out _).mono ?_
          rintro e w3 ⟨rfl, b3⟩
          have e1 := n1.spot
          have l3 := R3.out.lt
          have l5 := R5.out.lt
          have l7 := R7.out.lt
          have lq := HQ.out.lt
          have hsz := HB.out.size
          have Rx3 : Hid (RowAt w3 g3 31 (keyC zero64B)) := ((R3.out.kept n1.below).grown p2.grown (by intro h; injection h with h; omega)).kept b3
          have Rx5 : Hid (RowAt w3 g5 24 (wordsC fst)) := ((R5.out.kept n1.below).grown p2.grown (by intro h; injection h with h; omega)).kept b3
          have Rx7 : Hid (RowAt w3 g7 24 (wordsC va)) := ((R7.out.kept n1.below).grown p2.grown (by intro h; injection h with h; omega)).kept b3
          have Bx : Hid (Below w.heap.size w w3) := below_size (p2.below (below_size HB.out n1.below) (by have := n1.below.size; omega) (by omega)) b3
          have Qx : Hid (Quar w3) := HQ.out.below (below_size (p2.below n1.below n1.below.size (by omega)) b3)
          clear n1 p2 b3 e1 l3 l5 l7 lq hsz d0 d1 d2 d3 hix HQB HQC R3 R5 R7 HQ HB
          go_wp2_with ((with_reducible refine wpList_store_row (o := ⟨none, _, _, _, _, _⟩) rfl 24 (.tmp 8) (.tmp 32) rfl g7 24 _ (wordsC vb) (by with_unfolding_all rfl) (by with_unfolding_all rfl) Rx7.out (wordsC_same HLJ.out HLN.out) (Tryd.sizeWs vb HLN.out) (wordsC_one vb) ?_); intro w4 p4)
          go_roundw
          case rel => exact ⟨j + 1, by omega, by go_num, Rx3.out.grown p4.grown (by intro h; injection h with h; omega), Rx5.out.grown p4.grown (by intro h; injection h with h; omega), by rw [HVB.out]; exact p4.row, Qx.out.grown p4.grown (by intro h; injection h with h; omega), p4.below Bx.out Bx.out.size hg7⟩
          case measure => simp [intOf]; omega
        · have hj8 : j = 8 := by omega
          have R78 : Hid (RowAt wr g7 24 (wordsC (runS fst (8 * (k + 1))))) := by
            rw [show 8 * (k + 1) = 8 * k + j by omega]
            exact R7
          clear hj8 R7
          go_wp2
          go_roundw
          case rel => exact ⟨k + 1, by omega, by go_num, R3.out, R5.out, R78.out, HQ.out, HB.out⟩
          case measure => simp [intOf]; omega
    · have hk10 : k = 10 := by omega
      have L80 := Lib.hid (LR.out 80)
      have R70 : Hid (RowAt wr g7 24 (wordsC (summed (runS fst 80) fst 0))) := by
        rw [summed_zero, ← show 8 * k = 80 by omega]
        exact R7
      clear hk10 R7 LR HQ
      generalize runS fst 80 = va at *
      go_wp2
      go_loopw [35] (fun i wr => ∃ j : Nat, j ≤ 16 ∧ i = .int .i64 j ∧ RowAt wr g3 31 (keyC zero64B) ∧ RowAt wr g5 24 (wordsC fst) ∧ RowAt wr g7 24 (wordsC (summed va fst j)) ∧ Below w.heap.size w wr) (fun i _ => 16 - (intOf i).toNat)
      case atStart => exact ⟨0, by omega, rfl, R3.out, R5.out, R70.out, HB.out⟩
      case round =>
        clear R3 R5 R70 HB
        rename_i k0 _ _ _ _
        obtain ⟨k, hk, rfl, hr3, hr5, hr7, hb⟩ := hrel
        have R3 := Lib.hid hr3
        have R5 := Lib.hid hr5
        have R7 := Lib.hid hr7
        have HB := Lib.hid hb
        clear hr3 hr5 hr7 hb
        by_cases hlk : k < 16
        · have c0 := wordsC_cell R7.out k (by rw [summed_length _ _ 16 _ L80.out L0.out hk]; omega)
          have c1 := wordsC_cell R5.out k (by rw [L0.out]; omega)
          rw [summed_get _ _ 16 k L80.out L0.out hlk] at c0
          have hfz := R7.out.frozen k
          have hps := summed_step va fst 16 k L80.out L0.out hlk
          generalize va.getD k 0 = x1 at c0 hps
          generalize fst.getD k 0 = x2 at c1 hps
          obtain ⟨xs, hxs⟩ : ∃ xs, x1 + x2 = xs := ⟨_, rfl⟩
          have hsum : IntKind.u32.wrap ((x1.toNat : Int) + (x2.toNat : Int)) = (xs.toNat : Int) := by rw [add32, hxs]
          have hput := R7.out.put k (.int .u32 (xs.toNat : Int))
          rw [wordsC_put, ← hxs, hps, hxs] at hput
          have HP := Lib.hid hput
          have hqk : (k : Int) < 16 := by omega
          clear hput hps hxs
          go_wp2_with fail
          go_still_tail 8, (by kernel_rfl)
          change wpList _ _ _ _ _ wr.drew
          have hcell : wr.drew.cell? ⟨g7, k, none⟩ = some (.int .u32 (x1.toNat : Int)) := c0
          have hfz2 : wr.drew.frozen? ⟨g7, k, none⟩ = false := hfz
          clear c0 c1 hfz hsum
          go_wp2
          go_roundw
          case rel => exact ⟨k + 1, by omega, by go_num, (R3.out.far (by show g3 ≠ g7; omega) _).drew, (R5.out.far (by show g5 ≠ g7; omega) _).drew, HP.out.drew, (HB.out.setCell hg7 _).drew⟩
          case measure => simp [intOf]; omega
        · have hk16 : k = 16 := by omega
          have R72 : Hid (RowAt wr g7 24 (wordsC (List.zipWith (· + ·) va fst))) := by
            have := R7.out
            rw [hk16, summed_all _ _ 16 L80.out L0.out] at this
            exact this
          have LZ : Hid ((List.zipWith (· + ·) va fst).length = 16) := by show _ = _; rw [List.length_zipWith, L80.out, L0.out]; rfl
          clear hk16 R7
          generalize List.zipWith (· + ·) va fst = vz at *
          go_wp2_with (with_reducible refine wpList_load_row (o := ⟨some 47, _, _, _, _, _⟩) rfl 24 (.tmp 8) rfl g7 (by with_unfolding_all rfl) 24 (wordsC vz) (0, 0) (.array 16 22) (by with_unfolding_all exact R72.out) Tryd.underlying24 rfl (Tryd.sizeWs vz LZ.out) ?_)
          refine (written_any _ vz LZ.out).mono ?_
          rintro e w2 ⟨rfl, b2⟩
          rw [← HF.out]
          have R33 : Hid (RowAt w2 g3 31 (keyC zero64B)) := R3.out.kept b2
          have B33 : Hid (Below w.heap.size w w2) := below_size HB.out b2
          clear b2 R3 HB R5 R72
          go_wp2_with ((with_reducible refine wpList_store_row (o := ⟨none, _, _, _, _, _⟩) rfl 31 (.tmp 6) (.tmp 48) rfl g3 31 _ (keyC fin) (by with_unfolding_all rfl) (by with_unfolding_all rfl) R33.out (keyC_sameN zero64B_length HFL.out) (Tryd.size64B fin HFL.out) (keyC_one fin) ?_); intro w9 p9)
          refine bodyPost_ret (results_cell_row rfl _ _ g3 31 (keyC fin) (0, 0) (.array 64 5) rfl p9.row Tryd.underlying31 rfl (Tryd.size64B fin HFL.out)) rfl ⟨rfl, ?_⟩
          exact p9.below B33.out B33.out.size hg3
end Go.Proofs.YtplaoofclgpeeaaDoor
