/-
  Texts that belong together, merged: StreamC, SealLaid, Once, SealA, Tail. Conditions: as each theorem names them.
-/
import Derived.Test.YtjdbjgaoeijmfaaDoorQSbaAC
import Derived.Test.YtjdbjgaoeijmfaaDoorCards
import Derived.Test.YtjdbjgaoeijmfaaDoorTie
import Derived.Test.YtjdbjgaoeijmfaaDoorQSbaAA
import Derived.Test.YtjdbjgaoeijmfaaDoorQSbaAB
import Derived.ProofKit
import Derived.ShutString
import Derived.Lib.LaidTab
import Derived.Stop.LaidErr
import Derived.Test.YtjdbjgaoeijmfaaDoorChecked
import Derived.Tactics
import Derived.Tactics2
import Derived.Defers
import Derived.Laws.Pointers
import Derived.Laws.LoneSync
import Derived.RegionTactic
import Derived.RegionCalls
import Derived.ChangeAlike
import Derived.Deep.MidRow
import Derived.StillTail
import Derived.Deep.Quiet
import Derived.Deep.QuietTactic
section
namespace Go.Proofs.YtjdbjgaoeijmfaaDoor
open Go.RowKit
set_option linter.unusedVariables false
set_option maxRecDepth 20000

/-- Block g is just the cells cs (a table of the program's text). -/
def TabAt (w : World) (g : Nat) (cs : Array Value) : Prop := ∃ t fr, w.heap[g]? = some (.cells cs t fr)
theorem TabAt.lt {w : World} {g : Nat} {cs : Array Value} (h : TabAt w g cs) : g < w.heap.size := by
  obtain ⟨t, fr, h⟩ := h
  rcases Nat.lt_or_ge g w.heap.size with hlt | hge
  · exact hlt
  · rw [Array.getElem?_eq_none hge] at h; cases h
theorem TabAt.below {w w' : World} {g : Nat} {cs : Array Value} (h : TabAt w g cs) (hb : Below w.heap.size w w') : TabAt w' g cs := by
  have hl := h.lt
  obtain ⟨t, fr, h⟩ := h
  exact ⟨t, fr, (hb.block g hl).trans h⟩
theorem TabAt.grown {w w' : World} {g : Nat} {cs : Array Value} {row : Option Nat} (h : TabAt w g cs) (hb : w.grownBy w' row) (hg : some g ≠ row) : TabAt w' g cs := by
  have hl := h.lt
  obtain ⟨t, fr, h⟩ := h
  exact ⟨t, fr, (hb.block g hl hg).trans h⟩
theorem TabAt.of_var {P : Program} {w : World} {name : String} {g : Nat} {cs : Array Value} (hg : P.globalNamed name = some g) (h : w.var? P name = some cs) : TabAt w g cs := by
  unfold World.var? at h
  rw [hg] at h
  simp only [Option.bind_some] at h
  split at h
  · rename_i cs' t fr hc
    injection h with h
    subst h
    exact ⟨t, fr, hc⟩
  · cases h

def quartersC : Array Value := (quartersT.flatten.map fun n : Nat => Value.int .i64 (n : Int)).toArray
def quarterC (k : Nat) : Array Value := #[.int .i64 ((quarterAt k).getD 0 0 : Nat), .int .i64 ((quarterAt k).getD 1 0 : Nat), .int .i64 ((quarterAt k).getD 2 0 : Nat), .int .i64 ((quarterAt k).getD 3 0 : Nat)]
theorem quarters_cut (j : Nat) (h : j < 8) : quartersC.extract (j * 4) (j * 4 + 4) = quarterC j := by
  have : j = 0 ∨ j = 1 ∨ j = 2 ∨ j = 3 ∨ j = 4 ∨ j = 5 ∨ j = 6 ∨ j = 7 := by omega
  rcases this with rfl | rfl | rfl | rfl | rfl | rfl | rfl | rfl <;> rfl
theorem quarterAt_add (i j : Nat) (h : j < 8) : quarterAt (8 * i + j) = quarterAt j := by
  unfold quarterAt
  rw [show (8 * i + j) % 8 = j % 8 by omega]
theorem quarterAt_lt (j : Nat) (h : j < 8) : (quarterAt j).getD 0 0 < 16 ∧ (quarterAt j).getD 1 0 < 16 ∧ (quarterAt j).getD 2 0 < 16 ∧ (quarterAt j).getD 3 0 < 16 := by
  have : j = 0 ∨ j = 1 ∨ j = 2 ∨ j = 3 ∨ j = 4 ∨ j = 5 ∨ j = 6 ∨ j = 7 := by omega
  rcases this with rfl | rfl | rfl | rfl | rfl | rfl | rfl | rfl <;> decide
theorem runS_step (w : List UInt32) (i j : Nat) (h : j < 8) : runS w (8 * i + (j + 1)) = quarterW (runS w (8 * i + j)) (low4 ((quarterAt j).getD 0 0 : Nat)) (low4 ((quarterAt j).getD 1 0 : Nat)) (low4 ((quarterAt j).getD 2 0 : Nat)) (low4 ((quarterAt j).getD 3 0 : Nat)) := by
  obtain ⟨h0, h1, h2, h3⟩ := quarterAt_lt j h
  rw [low4_nat _ h0, low4_nat _ h1, low4_nat _ h2, low4_nat _ h3, ← Nat.add_assoc, runS, quarterAt_add i j h]

theorem quarter_next (w : List UInt32) (i j : Nat) (h : j < 8) : ∃ a b c d : Nat, quarterC j = #[.int .i64 a, .int .i64 b, .int .i64 c, .int .i64 d] ∧ quarterW (runS w (8 * i + j)) (low4 a) (low4 b) (low4 c) (low4 d) = runS w (8 * i + (j + 1)) :=
  ⟨_, _, _, _, rfl, (runS_step w i j h).symm⟩
theorem four_cells {w : World} {g : Nat} {t : TypeId} {a b c d : Value} (h : RowAt w g t #[a, b, c, d]) :
    w.cell? ⟨g, 0, none⟩ = some a ∧ w.cell? ⟨g, 1, none⟩ = some b ∧ w.cell? ⟨g, 2, none⟩ = some c ∧ w.cell? ⟨g, 3, none⟩ = some d := ⟨h.cell 0, h.cell 1, h.cell 2, h.cell 3⟩

/-- The first k sums. -/
def summed (a b : List UInt32) (k : Nat) : List UInt32 := (List.zipWith (· + ·) a b).take k ++ a.drop k
theorem summed_length (a b : List UInt32) (n k : Nat) (h : a.length = n) (hl : b.length = n) (hk : k ≤ n) : (summed a b k).length = n := by simp [summed, h, hl]; omega
theorem summed_zero (a b : List UInt32) : summed a b 0 = a := by simp [summed]
theorem summed_all (a b : List UInt32) (n : Nat) (h : a.length = n) (hl : b.length = n) : summed a b n = List.zipWith (· + ·) a b := by
  unfold summed
  rw [List.take_of_length_le (by simp [h, hl]), List.drop_of_length_le (by omega), List.append_nil]
theorem summed_get (a b : List UInt32) (n k : Nat) (h : a.length = n) (hl : b.length = n) (hk : k < n) : (summed a b k).getD k 0 = a.getD k 0 := by
  unfold summed
  simp only [List.getD_eq_getElem?_getD]
  rw [List.getElem?_append_right (by simp [h, hl]; omega)]
  simp [h, hl, Nat.min_eq_left (Nat.le_of_lt hk)]
theorem summed_step (a b : List UInt32) (n k : Nat) (h : a.length = n) (hl : b.length = n) (hk : k < n) : (summed a b k).set k (a.getD k 0 + b.getD k 0) = summed a b (k + 1) := by
  unfold summed
  have hz : (List.zipWith (· + ·) a b).length = n := by simp [h, hl]
  rw [List.set_append_right _ _ (by simp [h, hl]; omega), List.take_succ_eq_append_getElem (by omega), List.append_assoc]
  congr 1
  rw [show k - ((List.zipWith (· + ·) a b).take k).length = 0 by simp [h, hl]; omega, List.drop_eq_getElem_cons (l := a) (i := k) (by omega), List.set_cons_zero]
  simp [h, hl, hk]

theorem Tryd.zero4 : (Tryd.prog.info? 105).map (·.zero) = some (some (.agg #[.int .i64 0, .int .i64 0, .int .i64 0, .int .i64 0])) := by kernel_rfl
theorem Tryd.size4i (k : Nat) : (Tryd.prog.info? 105).map (·.size) = some (quarterC k).size := (by kernel_rfl : (Tryd.prog.info? 105).map (·.size) = some 4)
theorem Tryd.size4 : (Tryd.prog.info? 105).map (·.size) = some 4 := by kernel_rfl
theorem Tryd.sizeQ : (Tryd.prog.info? 106).map (·.size) = some quartersC.size := by kernel_rfl
theorem quarterC_one (k : Nat) : ∀ u ∈ (quarterC k).toList, u.oneCell' = true := by
  intro u hu
  simp only [quarterC, List.mem_cons, List.not_mem_nil, or_false] at hu
  rcases hu with rfl | rfl | rfl | rfl <;> rfl

def Quar (w : World) : Prop := TabAt w 0 quartersC

set_option maxHeartbeats 2000000 in
theorem streamBlock_any (w : World) (hq : Quar w) (key nonce : List UInt8) (ctr : UInt32) (hk : key.length = 32) (hn : nonce.length = 12) :
    Calls Tryd.prog 51 #[keyV key, .int .u32 (ctr.toNat : Int), keyV nonce] w (RetV w (keyV (blockS key ctr nonce))) := by
  obtain ⟨fin, hfin⟩ : ∃ fin, fin = blockS key ctr nonce := ⟨_, rfl⟩
  have HFL : Hid (fin.length = 64) := by show _ = _; rw [hfin, blockS_length]
  rw [← hfin]
  obtain ⟨fst, hfst⟩ : ∃ fst, fst = firstS key ctr nonce := ⟨_, rfl⟩
  have L0 : Hid (fst.length = 16) := by show _ = _; rw [hfst, firstS_length]
  have HF : Hid (fin = bytesLow (List.zipWith (· + ·) (runS fst 80) fst)) := by show _ = _; rw [hfin, hfst]; rfl
  have hbeg := fun x => begin_any x key nonce ctr hk hn
  rw [← hfst] at hbeg
  have HBEG := Lib.hid hbeg
  have HK := Lib.hid (Tryd.sizeKey key hk)
  have HN : Hid ((Tryd.prog.info? 67).map (·.size) = some (keyC nonce).size) := by
    show _ = _
    rw [keyC_size, hn]
    exact (by kernel_rfl : (Tryd.prog.info? 67).map (·.size) = some 12)
  have HQ := Lib.hid hq
  have LR : Hid (∀ k, (runS fst k).length = 16) := fun k => by rw [runS_length, L0.out]
  clear hfin hfst hbeg hk hn hq
  go_enter Tryd.func51, Tryd.ntmps51
  go_wp2_with (first
    | ((with_reducible refine wpList_box_row (o := ⟨some 3, _, _, _, _, _⟩) rfl 23 (.tmp 0) rfl (keyC key) (by with_unfolding_all rfl) ?_); intro g1 w1 n1)
    | ((with_reducible refine wpList_box_row (o := ⟨some 5, _, _, _, _, _⟩) rfl 67 (.tmp 2) rfl (keyC nonce) (by with_unfolding_all rfl) ?_); intro g2 w2 n2)
    | ((with_reducible refine wpList_alloc_row (o := ⟨some 6, _, _, _, _, _⟩) rfl 75 rfl (keyC zero64B) Tryd.zero64B ?_); intro g3 w3 n3)
    | (with_reducible refine wpList_load_row (o := ⟨some 12, _, _, _, _, _⟩) rfl 23 (.tmp 3) rfl g1 (by with_unfolding_all rfl) 23 (keyC key) (0, 0) (.array 32 5) (by with_unfolding_all exact (n1.row.kept n2.below).kept n3.below) Tryd.underlying23 rfl HK.out ?_)
    | (with_reducible refine wpList_load_row (o := ⟨some 14, _, _, _, _, _⟩) rfl 67 (.tmp 5) rfl g2 (by with_unfolding_all rfl) 67 (keyC nonce) (0, 0) (.array 12 5) (by with_unfolding_all exact n2.row.kept n3.below) Tryd.underlying67 rfl HN.out ?_))
  refine (HBEG.out _).mono ?_
  rintro e w4 ⟨rfl, b4⟩
  have hg3 : w.heap.size ≤ g3 := by rw [n3.spot]; have := n1.below.size; have := n2.below.size; omega
  have B4 : Hid (Below w.heap.size w w4) := below_size (below_size (below_size n1.below n2.below) n3.below) b4
  have R4 : Hid (RowAt w4 g3 75 (keyC zero64B)) := n3.row.kept b4
  have Q4 : Hid (Quar w4) := HQ.out.below B4.out
  have l3 : g3 < w4.heap.size := R4.out.lt
  clear n1 n2 n3 b4 HBEG HK HN HQ
  go_wp2_with (first
    | ((with_reducible refine wpList_alloc_row (o := ⟨some 7, _, _, _, _, _⟩) rfl 103 rfl (wordsC zeroW) Tryd.zeroWs ?_); intro g5 w5 n5)
    | ((with_reducible refine wpList_store_row (o := ⟨none, _, _, _, _, _⟩) rfl 103 (.tmp 7) (.tmp 15) rfl g5 103 _ (wordsC fst) (by with_unfolding_all rfl) (by with_unfolding_all rfl) n5.row (wordsC_same zeroW_length L0.out) (Tryd.sizeWs fst L0.out) (wordsC_one fst) ?_); intro w6 p6)
    | (with_reducible refine wpList_load_row (o := ⟨some 16, _, _, _, _, _⟩) rfl 103 (.tmp 7) rfl g5 (by with_unfolding_all rfl) 103 (wordsC fst) (0, 0) (.array 16 48) (by with_unfolding_all exact p6.row) Tryd.underlying103 rfl (Tryd.sizeWs fst L0.out) ?_)
    | ((with_reducible refine wpList_alloc_row (o := ⟨some 8, _, _, _, _, _⟩) rfl 103 rfl (wordsC zeroW) Tryd.zeroWs ?_); intro g7 w7 n7)
    | ((with_reducible refine wpList_store_row (o := ⟨none, _, _, _, _, _⟩) rfl 103 (.tmp 8) (.tmp 16) rfl g7 103 _ (wordsC fst) (by with_unfolding_all rfl) (by with_unfolding_all rfl) n7.row (wordsC_same zeroW_length L0.out) (Tryd.sizeWs fst L0.out) (wordsC_one fst) ?_); intro w8 p8))
  have e5 := n5.spot
  have e7 := n7.spot
  have z5 := n5.size
  have z6 := p6.size
  have z4 := B4.out.size
  have hg5 : w.heap.size ≤ g5 := by omega
  have hg7 : w.heap.size ≤ g7 := by omega
  have h57 : g5 ≠ g7 := by omega
  have h37 : g3 ≠ g7 := by omega
  have B5 : Below w.heap.size w w5 := below_size B4.out n5.below
  have B6 : Below w.heap.size w w6 := p6.below B5 B5.size hg5
  have B7 : Below w.heap.size w w7 := below_size B6 n7.below
  have B8 : Hid (Below w.heap.size w w8) := p8.below B7 B7.size hg7
  have R38 : Hid (RowAt w8 g3 75 (keyC zero64B)) := (((R4.out.kept n5.below).grown p6.grown (by intro h; injection h with h; omega)).kept n7.below).grown p8.grown (by intro h; injection h with h; omega)
  have R58 : Hid (RowAt w8 g5 103 (wordsC fst)) := (p6.row.kept n7.below).grown p8.grown (by intro h; injection h with h; omega)
  have R78 : Hid (RowAt w8 g7 103 (wordsC (runS fst (8 * 0)))) := p8.row
  have Q8 : Hid (Quar w8) := by
    obtain ⟨t, fr, hq⟩ := Q4.out
    have hl := Q4.out.lt
    exact ⟨t, fr, (p8.grown.block _ (by have := n7.size; omega) (by intro h; injection h with h; omega)).trans ((n7.below.block _ (by omega)).trans ((p6.grown.block _ (by omega) (by intro h; injection h with h; omega)).trans ((n5.below.block _ hl).trans hq)))⟩
  have hq7 : 0 < g7 := by have := Q4.out.lt; omega
  clear n5 p6 n7 p8 e5 e7 z5 z6 z4 B5 B6 B7 R4 Q4 B4
  go_loopw [17] (fun i wr => ∃ k : Nat, k ≤ 10 ∧ i = .int .i64 k ∧ RowAt wr g3 75 (keyC zero64B) ∧ RowAt wr g5 103 (wordsC fst) ∧ RowAt wr g7 103 (wordsC (runS fst (8 * k))) ∧ Quar wr ∧ Below w.heap.size w wr) (fun i _ => 10 - (intOf i).toNat)
  case atStart => exact ⟨0, by omega, rfl, R38.out, R58.out, R78.out, Q8.out, B8.out⟩
  case round =>
    clear R38 R58 R78 Q8 B8
    obtain ⟨k, hk, rfl, hr3, hr5, hr7, hq, hb⟩ := hrel
    have R3 := Lib.hid hr3
    have R5 := Lib.hid hr5
    have R7 := Lib.hid hr7
    have HQ := Lib.hid hq
    have HB := Lib.hid hb
    clear hr3 hr5 hr7 hq hb
    by_cases hlt : k < 10
    · obtain ⟨qt, qf, hqq⟩ := HQ.out
      have HQQ := Lib.hid hqq
      clear hqq
      go_wp2_with (with_reducible refine wpList_load_row (o := ⟨some 19, _, _, _, _, _⟩) rfl 106 (.global 0) rfl 0 (by with_unfolding_all rfl) qt quartersC qf (.array 8 105) (by with_unfolding_all exact HQQ.out) Tryd.underlying106 rfl Tryd.sizeQ ?_)
      go_loopw [20] (fun i wr => ∃ j : Nat, j ≤ 8 ∧ i = .int .i64 j ∧ RowAt wr g3 75 (keyC zero64B) ∧ RowAt wr g5 103 (wordsC fst) ∧ RowAt wr g7 103 (wordsC (runS fst (8 * k + j))) ∧ Quar wr ∧ Below w.heap.size w wr) (fun i _ => 8 - (intOf i).toNat)
      case atStart => exact ⟨0, by omega, rfl, R3.out, R5.out, R7.out, HQ.out, HB.out⟩
      case round =>
        clear R3 R5 R7 HQ HB HQQ
        obtain ⟨j, hj, rfl, hr3, hr5, hr7, hq, hb⟩ := hrel
        have R3 := Lib.hid hr3
        have R5 := Lib.hid hr5
        have R7 := Lib.hid hr7
        have HQ := Lib.hid hq
        have HB := Lib.hid hb
        clear hr3 hr5 hr7 hq hb
        by_cases hlj : j < 8
        · have hix := fun x : World => run_index_arr_agg (P := Tryd.prog) x 106 105 3 8 4 4 quartersC .i64 j Tryd.underlying106 Tryd.underlying105 Tryd.size4 hlj
          rw [quarters_cut j hlj] at hix
          obtain ⟨q0, q1, q2, q3, hqc, hqs⟩ := quarter_next fst k j hlj
          have HQA := fun x => Quarter_any x (runS fst (8 * k + j)) (LR.out _) q0 q1 q2 q3
          rw [hqs] at HQA
          have HQB := Lib.hid HQA
          have HQC := Lib.hid hqc
          have HLJ := Lib.hid (LR.out (8 * k + j))
          have HLN := Lib.hid (LR.out (8 * k + (j + 1)))
          clear HQA hqc hqs
          generalize runS fst (8 * k + j) = va at *
          generalize hvb : runS fst (8 * k + (j + 1)) = vb at *
          have HVB := Lib.hid hvb
          clear hvb
          go_wp2_with (first
            | ((with_reducible refine wpList_alloc_row (o := ⟨some 10, _, _, _, _, _⟩) rfl 105 rfl #[.int .i64 0, .int .i64 0, .int .i64 0, .int .i64 0] Tryd.zero4 ?_); intro g1 w1 n1)
            | ((with_reducible refine wpList_store_row (o := ⟨none, _, _, _, _, _⟩) rfl 105 (.tmp 10) (.tmp 22) rfl g1 105 _ (quarterC j) (by with_unfolding_all rfl) (by with_unfolding_all rfl) n1.row rfl (Tryd.size4i j) (quarterC_one j) ?_); intro w2 p2; have hr := p2.row; rw [HQC.out] at hr; obtain ⟨d0, d1, d2, d3⟩ := four_cells hr; clear hr)
            | (with_reducible refine wpList_load_row (o := ⟨some 23, _, _, _, _, _⟩) rfl 103 (.tmp 8) rfl g7 (by with_unfolding_all rfl) 103 (wordsC va) (0, 0) (.array 16 48) (by with_unfolding_all exact (R7.out.kept n1.below).grown p2.grown (by intro h; injection h with h; have := n1.spot; have := R7.out.lt; omega)) Tryd.underlying103 rfl (Tryd.sizeWs va HLJ.out) ?_))
          refine (HQB.out _).mono ?_
          rintro e w3 ⟨rfl, b3⟩
          have e1 := n1.spot
          have l3 := R3.out.lt
          have l5 := R5.out.lt
          have l7 := R7.out.lt
          have lq := HQ.out.lt
          have hsz := HB.out.size
          have Rx3 : Hid (RowAt w3 g3 75 (keyC zero64B)) := ((R3.out.kept n1.below).grown p2.grown (by intro h; injection h with h; omega)).kept b3
          have Rx5 : Hid (RowAt w3 g5 103 (wordsC fst)) := ((R5.out.kept n1.below).grown p2.grown (by intro h; injection h with h; omega)).kept b3
          have Rx7 : Hid (RowAt w3 g7 103 (wordsC va)) := ((R7.out.kept n1.below).grown p2.grown (by intro h; injection h with h; omega)).kept b3
          have Bx : Hid (Below w.heap.size w w3) := below_size (p2.below (below_size HB.out n1.below) (by have := n1.below.size; omega) (by omega)) b3
          have Qx : Hid (Quar w3) := HQ.out.below (below_size (p2.below n1.below n1.below.size (by omega)) b3)
          clear n1 p2 b3 e1 l3 l5 l7 lq hsz d0 d1 d2 d3 hix HQB HQC R3 R5 R7 HQ HB
          go_wp2_with ((with_reducible refine wpList_store_row (o := ⟨none, _, _, _, _, _⟩) rfl 103 (.tmp 8) (.tmp 32) rfl g7 103 _ (wordsC vb) (by with_unfolding_all rfl) (by with_unfolding_all rfl) Rx7.out (wordsC_same HLJ.out HLN.out) (Tryd.sizeWs vb HLN.out) (wordsC_one vb) ?_); intro w4 p4)
          go_roundw
          case rel => exact ⟨j + 1, by omega, by go_num, Rx3.out.grown p4.grown (by intro h; injection h with h; omega), Rx5.out.grown p4.grown (by intro h; injection h with h; omega), by rw [HVB.out]; exact p4.row, Qx.out.grown p4.grown (by intro h; injection h with h; omega), p4.below Bx.out Bx.out.size hg7⟩
          case measure => simp [intOf]; omega
        · have hj8 : j = 8 := by omega
          have R78 : Hid (RowAt wr g7 103 (wordsC (runS fst (8 * (k + 1))))) := by
            rw [show 8 * (k + 1) = 8 * k + j by omega]
            exact R7
          clear hj8 R7
          go_wp2
          go_roundw
          case rel => exact ⟨k + 1, by omega, by go_num, R3.out, R5.out, R78.out, HQ.out, HB.out⟩
          case measure => simp [intOf]; omega
    · have hk10 : k = 10 := by omega
      have L80 := Lib.hid (LR.out 80)
      have R70 : Hid (RowAt wr g7 103 (wordsC (summed (runS fst 80) fst 0))) := by
        rw [summed_zero, ← show 8 * k = 80 by omega]
        exact R7
      clear hk10 R7 LR HQ
      generalize runS fst 80 = va at *
      go_wp2
      go_loopw [35] (fun i wr => ∃ j : Nat, j ≤ 16 ∧ i = .int .i64 j ∧ RowAt wr g3 75 (keyC zero64B) ∧ RowAt wr g5 103 (wordsC fst) ∧ RowAt wr g7 103 (wordsC (summed va fst j)) ∧ Below w.heap.size w wr) (fun i _ => 16 - (intOf i).toNat)
      case atStart => exact ⟨0, by omega, rfl, R3.out, R5.out, R70.out, HB.out⟩
      case round =>
        clear R3 R5 R70 HB
        rename_i k0 _ _ _ _
        obtain ⟨k, hk, rfl, hr3, hr5, hr7, hb⟩ := hrel
        have R3 := Lib.hid hr3
        have R5 := Lib.hid hr5
        have R7 := Lib.hid hr7
        have HB := Lib.hid hb
        clear hr3 hr5 hr7 hb
        by_cases hlk : k < 16
        · have c0 := wordsC_cell R7.out k (by rw [summed_length _ _ 16 _ L80.out L0.out hk]; omega)
          have c1 := wordsC_cell R5.out k (by rw [L0.out]; omega)
          rw [summed_get _ _ 16 k L80.out L0.out hlk] at c0
          have hfz := R7.out.frozen k
          have hps := summed_step va fst 16 k L80.out L0.out hlk
          generalize va.getD k 0 = x1 at c0 hps
          generalize fst.getD k 0 = x2 at c1 hps
          obtain ⟨xs, hxs⟩ : ∃ xs, x1 + x2 = xs := ⟨_, rfl⟩
          have hsum : IntKind.u32.wrap ((x1.toNat : Int) + (x2.toNat : Int)) = (xs.toNat : Int) := by rw [add32, hxs]
          have hput := R7.out.put k (.int .u32 (xs.toNat : Int))
          rw [wordsC_put, ← hxs, hps, hxs] at hput
          have HP := Lib.hid hput
          have hqk : (k : Int) < 16 := by omega
          clear hput hps hxs
          go_wp2_with fail
          go_still_tail 8, (by kernel_rfl)
          change wpList _ _ _ _ _ wr.drew
          have hcell : wr.drew.cell? ⟨g7, k, none⟩ = some (.int .u32 (x1.toNat : Int)) := c0
          have hfz2 : wr.drew.frozen? ⟨g7, k, none⟩ = false := hfz
          clear c0 c1 hfz hsum
          go_wp2
          go_roundw
          case rel => exact ⟨k + 1, by omega, by go_num, (R3.out.far (by show g3 ≠ g7; omega) _).drew, (R5.out.far (by show g5 ≠ g7; omega) _).drew, HP.out.drew, (HB.out.setCell hg7 _).drew⟩
          case measure => simp [intOf]; omega
        · have hk16 : k = 16 := by omega
          have R72 : Hid (RowAt wr g7 103 (wordsC (List.zipWith (· + ·) va fst))) := by
            have := R7.out
            rw [hk16, summed_all _ _ 16 L80.out L0.out] at this
            exact this
          have LZ : Hid ((List.zipWith (· + ·) va fst).length = 16) := by show _ = _; rw [List.length_zipWith, L80.out, L0.out]; rfl
          clear hk16 R7
          generalize List.zipWith (· + ·) va fst = vz at *
          go_wp2_with (with_reducible refine wpList_load_row (o := ⟨some 47, _, _, _, _, _⟩) rfl 103 (.tmp 8) rfl g7 (by with_unfolding_all rfl) 103 (wordsC vz) (0, 0) (.array 16 48) (by with_unfolding_all exact R72.out) Tryd.underlying103 rfl (Tryd.sizeWs vz LZ.out) ?_)
          refine (written_any _ vz LZ.out).mono ?_
          rintro e w2 ⟨rfl, b2⟩
          rw [← HF.out]
          have R33 : Hid (RowAt w2 g3 75 (keyC zero64B)) := R3.out.kept b2
          have B33 : Hid (Below w.heap.size w w2) := below_size HB.out b2
          clear b2 R3 HB R5 R72
          go_wp2_with ((with_reducible refine wpList_store_row (o := ⟨none, _, _, _, _, _⟩) rfl 75 (.tmp 6) (.tmp 48) rfl g3 75 _ (keyC fin) (by with_unfolding_all rfl) (by with_unfolding_all rfl) R33.out (keyC_sameN zero64B_length HFL.out) (Tryd.size64B fin HFL.out) (keyC_one fin) ?_); intro w9 p9)
          refine bodyPost_ret (results_cell_row rfl _ _ g3 75 (keyC fin) (0, 0) (.array 64 5) rfl p9.row Tryd.underlying75 rfl (Tryd.size64B fin HFL.out)) rfl ⟨rfl, ?_⟩
          exact p9.below B33.out B33.out.size hg3
end Go.Proofs.YtjdbjgaoeijmfaaDoor
end
section
namespace Go.Proofs.YtjdbjgaoeijmfaaDoor
open Go.RowKit
set_option linter.unusedVariables false
set_option maxRecDepth 100000

theorem gCubes : Tryd.prog.globalNamed "cablegram/sha.cubes" = some 2 := by kernel_rfl
theorem gCubesType : (Tryd.prog.globals[2]?).map (·.type) = some 118 := by kernel_rfl
theorem gSquares : Tryd.prog.globalNamed "cablegram/sha.squares" = some 1 := by kernel_rfl
theorem gSquaresType : (Tryd.prog.globals[1]?).map (·.type) = some 101 := by kernel_rfl
theorem cellsT1 : Tryd.prog.cellsOf 48 = 1 := by kernel_rfl
theorem cellsT64 : Tryd.prog.cellsOf 118 = 64 := by kernel_rfl
theorem cellsT8 : Tryd.prog.cellsOf 101 = 8 := by kernel_rfl
def cubesI : List Int := cubesW.map fun x => (x.toNat : Int)
def squaresI : List Int := squaresW.map fun x => (x.toNat : Int)
theorem cubes_data : (Rows.laid_cablegram_sha_cubes : DataW Unit) = Lib.tabData .u32 cubesI := by kernel_rfl
theorem squares_data : (Rows.laid_cablegram_sha_squares : DataW Unit) = Lib.tabData .u32 squaresI := by kernel_rfl
theorem tab_get (l : List UInt32) (j : Nat) (h : j < l.length) : (l.map fun x => (x.toNat : Int)).getD j 0 = ((l.getD j 0).toNat : Int) := by
  simp [List.getD_eq_getElem?_getD, h]

theorem gQuarters : Tryd.prog.globalNamed "cablegram/stream.quarters" = some 0 := by kernel_rfl
theorem gQuartersType : (Tryd.prog.globals[0]?).map (·.type) = some 106 := by kernel_rfl
theorem cellsQ1 : Tryd.prog.cellsOf 3 = 1 := by kernel_rfl
theorem cellsQ4 : Tryd.prog.cellsOf 105 = 4 := by kernel_rfl
theorem cellsQ32 : Tryd.prog.cellsOf 106 = 8 * 4 := by kernel_rfl
def quartersI : List (List Int) := [[0, 4, 8, 12], [1, 5, 9, 13], [2, 6, 10, 14], [3, 7, 11, 15], [0, 5, 10, 15], [1, 6, 11, 12], [2, 7, 8, 13], [3, 4, 9, 14]]
theorem quartersC_eq : (quartersI.flatten.map fun z => Value.int .i64 z).toArray = quartersC := by rfl

theorem tables {W : World} (h : laidMetH Tryd.prog Rows.sealBackRow.laid W) : Tabs W ∧ Quar W := by
  have h0 : laidMet Tryd.prog [("cablegram/stream.quarters", Rows.laid_cablegram_stream_quarters), ("cablegram/sha.cubes", Rows.laid_cablegram_sha_cubes), ("cablegram/sha.squares", Rows.laid_cablegram_sha_squares)] W := h
  have h1 := laidMet.tail h0
  have h2 := laidMet.tail h1
  rw [cubes_data] at h1
  rw [squares_data] at h2
  have c := Lib.tabIs_of_head gCubes gCubesType Tryd.underlying118 Tryd.underlying48 cellsT1 cellsT64 h1
  have s := Lib.tabIs_of_head gSquares gSquaresType Tryd.underlying101 Tryd.underlying48 cellsT1 cellsT8 h2
  refine ⟨⟨fun j hj => ?_, fun j hj => ?_⟩, ?_⟩
  · have := c.cell gCubes j (by simp [cubesI, cubesW_length]; exact hj)
    rw [this, cubesI, tab_get _ _ (by rw [cubesW_length]; exact hj)]
  · have := s.cell gSquares j (by simp [squaresI, squaresW_length]; exact hj)
    rw [this, squaresI, tab_get _ _ (by rw [squaresW_length]; exact hj)]
  · obtain ⟨ps, ⟨g', t', cs, fuel, p, q, hg', ht', hvar, hd, _, _⟩, _⟩ := h0
    obtain rfl := Option.some.inj (gQuarters.symm.trans hg')
    obtain rfl := Option.some.inj (gQuartersType.symm.trans ht')
    have hc := cells_of_rows (rows := quartersI) Tryd.underlying106 Tryd.underlying105 Tryd.underlying3 cellsQ1 cellsQ4 cellsQ32 rfl hd
    refine TabAt.of_var gQuarters ?_
    rw [hvar, ← quartersC_eq, ← hc]

def putCells (cs : Array Value) : Obj → Obj
  | .cells _ t frozen => .cells cs t frozen
  | o => o
/-- A world for a witness: the settled one, the tables holding what their initialisers lay. -/
noncomputable def laidWorld (os : Os) : World :=
  { World.holding Tryd.prog os ⟨#[], #[], []⟩ with heap := Array.modify (Array.modify (Array.modify (World.holding Tryd.prog os ⟨#[], #[], []⟩).heap 0 (putCells #[.int .i64 0, .int .i64 4, .int .i64 8, .int .i64 12, .int .i64 1, .int .i64 5, .int .i64 9, .int .i64 13, .int .i64 2, .int .i64 6, .int .i64 10, .int .i64 14, .int .i64 3, .int .i64 7, .int .i64 11, .int .i64 15, .int .i64 0, .int .i64 5, .int .i64 10, .int .i64 15, .int .i64 1, .int .i64 6, .int .i64 11, .int .i64 12, .int .i64 2, .int .i64 7, .int .i64 8, .int .i64 13, .int .i64 3, .int .i64 4, .int .i64 9, .int .i64 14])) 2 (putCells #[.int .u32 1116352408, .int .u32 1899447441, .int .u32 3049323471, .int .u32 3921009573, .int .u32 961987163, .int .u32 1508970993, .int .u32 2453635748, .int .u32 2870763221, .int .u32 3624381080, .int .u32 310598401, .int .u32 607225278, .int .u32 1426881987, .int .u32 1925078388, .int .u32 2162078206, .int .u32 2614888103, .int .u32 3248222580, .int .u32 3835390401, .int .u32 4022224774, .int .u32 264347078, .int .u32 604807628, .int .u32 770255983, .int .u32 1249150122, .int .u32 1555081692, .int .u32 1996064986, .int .u32 2554220882, .int .u32 2821834349, .int .u32 2952996808, .int .u32 3210313671, .int .u32 3336571891, .int .u32 3584528711, .int .u32 113926993, .int .u32 338241895, .int .u32 666307205, .int .u32 773529912, .int .u32 1294757372, .int .u32 1396182291, .int .u32 1695183700, .int .u32 1986661051, .int .u32 2177026350, .int .u32 2456956037, .int .u32 2730485921, .int .u32 2820302411, .int .u32 3259730800, .int .u32 3345764771, .int .u32 3516065817, .int .u32 3600352804, .int .u32 4094571909, .int .u32 275423344, .int .u32 430227734, .int .u32 506948616, .int .u32 659060556, .int .u32 883997877, .int .u32 958139571, .int .u32 1322822218, .int .u32 1537002063, .int .u32 1747873779, .int .u32 1955562222, .int .u32 2024104815, .int .u32 2227730452, .int .u32 2361852424, .int .u32 2428436474, .int .u32 2756734187, .int .u32 3204031479, .int .u32 3329325298])) 1 (putCells #[.int .u32 1779033703, .int .u32 3144134277, .int .u32 1013904242, .int .u32 2773480762, .int .u32 1359893119, .int .u32 2600822924, .int .u32 528734635, .int .u32 1541459225]) }
end Go.Proofs.YtjdbjgaoeijmfaaDoor
end
section
namespace Go.Proofs.YtjdbjgaoeijmfaaDoor
open Go.RowKit
set_option linter.unusedVariables false

theorem race_disable (w : World) : (callFunc 87 #[]).run Tryd.prog w = .ok (.value (.tuple #[])) w := run_call_mark0 Tryd.func87 (by kernel_rfl) (by kernel_rfl) (by kernel_rfl) .disable (by kernel_rfl) w
theorem race_enable (w : World) : (callFunc 89 #[]).run Tryd.prog w = .ok (.value (.tuple #[])) w := run_call_mark0 Tryd.func89 (by kernel_rfl) (by kernel_rfl) (by kernel_rfl) .enable (by kernel_rfl) w
theorem race_acquire (a : Addr) (w : World) : (callFunc 90 #[.pointer (some a)]).run Tryd.prog w = .ok (.value (.tuple #[])) w := run_call_marked Tryd.func90 (by kernel_rfl) (by kernel_rfl) (by kernel_rfl) .acquire (by kernel_rfl) a w
theorem race_release (a : Addr) (w : World) : (callFunc 92 #[.pointer (some a)]).run Tryd.prog w = .ok (.value (.tuple #[])) w := run_call_marked Tryd.func92 (by kernel_rfl) (by kernel_rfl) (by kernel_rfl) .releaseMerge (by kernel_rfl) a w

theorem once_store (a : Addr) (x : Value) (u : FrameMode) (w : World) (hc : w.cell? a = some x) (hz : w.frozen? a = false) :
    CallsD Tryd.prog 67 #[.pointer (some a), .bool true] u w fun e u' w' => u' = u ∧ (e = .returned (.tuple #[]) ∧ w' = w.drew.setCell a (.int .u32 1)) := by
  have hc' : w.drew.cell? a = some x := by go_simp
  have hz' : w.drew.frozen? a = false := by go_simp
  have hst := run_call_store (P := Tryd.prog) Tryd.func79 (by kernel_rfl) (by kernel_rfl) (by kernel_rfl) (by kernel_rfl) (k := .u32) (y := 1) hc' hz'
  go_enter_d Tryd.func67, Tryd.ntmps67
  go_wp2
  go_region_calls
  all_goals (go_end0; exact ⟨rfl, rfl⟩)

set_option maxRecDepth 100000 in
theorem once_unlock (a : Addr) (u : FrameMode) (w : World) (hc : w.cell? a = some (.int .i32 1)) (hz : w.frozen? a = false) :
    CallsD Tryd.prog 66 #[.pointer (some a)] u w fun e u' w' => u' = u ∧ (e = .returned (.tuple #[]) ∧ w' = w.setCell a (.int .i32 0)) := by
  have hd := race_disable
  have he := race_enable
  have hr := race_release
  have hadd := run_call_add (P := Tryd.prog) Tryd.func93 (by kernel_rfl) (by kernel_rfl) (by kernel_rfl) .i32 (by kernel_rfl) (y := -1) (s := 0) hc hz (by simp [go_sem]; rfl)
  have hcv := run_convert_to_unsafe (P := Tryd.prog) (src := 130) (dst := 134) Tryd.underlying130 Tryd.underlying134 (by kernel_rfl) hc
  go_enter_d Tryd.func66, Tryd.ntmps66
  go_wp2
  go_end0
  go_wp2
  go_end0
  exact ⟨rfl, rfl⟩

set_option maxRecDepth 100000 in
theorem once_lock (a : Addr) (w : World) (hc : w.cell? a = some (.int .i32 0)) (hz : w.frozen? a = false) :
    Calls Tryd.prog 65 #[.pointer (some a)] w fun e w' => e = .returned (.tuple #[]) ∧ w' = w.setCell a (.int .i32 1) := by
  have hd := race_disable
  have he := race_enable
  have ha := race_acquire
  have hcas := run_call_cas_hit (P := Tryd.prog) Tryd.func88 (by kernel_rfl) (by kernel_rfl) (by kernel_rfl) .i32 (by kernel_rfl) (y := 1) hc hz
  have hc' : (w.setCell a (.int .i32 1)).cell? a = some (.int .i32 1) := World.cell?_setCell_same w a _ hc
  have hcv := run_convert_to_unsafe (P := Tryd.prog) (src := 130) (dst := 134) Tryd.underlying130 Tryd.underlying134 (by kernel_rfl) hc'
  go_enter Tryd.func65, Tryd.ntmps65
  go_wp2
  first | go_end0 | (simp only [Exit.inBlock, Exit.then]; refine bodyPost_ret (results_none rfl _ _ _) rfl ?_) | refine bodyPost_ret (results_none rfl _ _ _) rfl ?_
  go_wp2
  go_end0
  exact ⟨rfl, rfl⟩

set_option maxRecDepth 100000 in
set_option maxHeartbeats 1600000 in
theorem once_slow (b off fn : Nat) (lb : Array Value) (hent : ∀ args w, (callFunc fn args).run Tryd.prog w = .ok (.enter fn args) w) (w : World)
    (h0 : w.cell? ⟨b, off, none⟩ = some (.int .u32 0)) (h1 : w.cell? ⟨b, off + 1, none⟩ = some (.int .i32 0)) (f0 : w.frozen? ⟨b, off, none⟩ = false) (f1 : w.frozen? ⟨b, off + 1, none⟩ = false)
    (G : World → Prop) (hf : Calls Tryd.prog fn lb (w.setCell ⟨b, off + 1, none⟩ (.int .i32 1)) fun e w' => e = .returned (.tuple #[]) ∧ G w')
    (hG : ∀ w', G w' → w'.cell? ⟨b, off, none⟩ = some (.int .u32 0) ∧ w'.frozen? ⟨b, off, none⟩ = false ∧ w'.cell? ⟨b, off + 1, none⟩ = some (.int .i32 1) ∧ w'.frozen? ⟨b, off + 1, none⟩ = false) :
    Calls Tryd.prog 53 #[.pointer (some ⟨b, off, none⟩), .func (.func fn) #[] lb] w fun e w' => e = .returned (.tuple #[]) ∧ ∃ x, G x ∧ w' = (x.drew.setCell ⟨b, off, none⟩ (.int .u32 1)).setCell ⟨b, off + 1, none⟩ (.int .i32 0) := by
  have hl := run_call_load (P := Tryd.prog) Tryd.func64 (by kernel_rfl) (by kernel_rfl) (by kernel_rfl) .u32 (by kernel_rfl) (w := w.setCell ⟨b, off + 1, none⟩ (.int .i32 1)) (a := ⟨b, off, none⟩) (x := 0) ((World.cell?_setCell_other _ ⟨b, off + 1, none⟩ ⟨b, off, none⟩ _ (by simp)).trans h0)
  have hnot : ∀ (x : Bool) (w : World), (Op.unary .not (.bool x)).run Tryd.prog w = .ok (.bool (!x)) w := fun _ _ => rfl
  have HF := Lib.hid hf
  have HG := Lib.hid hG
  clear hf hG
  go_enter_defers Tryd.func53, Tryd.ntmps53
  go_wp2_with (first
    | (go_at_call 65; refine (once_lock ⟨b, off + 1, none⟩ _ (by go_simp) (by go_simp)).mono ?_; rintro e w' ⟨rfl, rfl⟩)
    | (go_at_call 52; go_in))
  refine HF.out.mono ?_
  intro e x h
  obtain ⟨he, hg⟩ := h
  subst he
  obtain ⟨k0, z0, k1, z1⟩ := HG.out x hg
  have HGX := Lib.hid hg
  clear hg HG HF hl
  go_wp2
  refine leaves_cons (f := 67) (args := #[.pointer (some ⟨b, off, none⟩), .bool true]) (by simp) (by simp [go_sem]) ?_
  refine (once_store ⟨b, off, none⟩ (.int .u32 0) .returning _ k0 z0).mono ?_
  rintro e u' w'' ⟨rfl, rfl, rfl⟩
  refine leaves_cons (f := 66) (args := #[.pointer (some ⟨b, off + 1, none⟩)]) (by simp [settle]) (by simp [go_sem]) ?_
  refine (once_unlock ⟨b, off + 1, none⟩ _ _ ?_ (by simp [z1])).mono ?_
  · refine (World.cell?_setCell_other _ ⟨b, off, none⟩ ⟨b, off + 1, none⟩ _ (by simp)).trans ?_
    rw [World.cell?_drew]
    exact k1
  rintro e u' w'' ⟨rfl, rfl, rfl⟩
  simp [Leaves, settle, results, Tryd.results53]
  exact ⟨x, HGX.out, rfl⟩

/-- Do, the first time. -/
theorem once_first (b off fn : Nat) (lb : Array Value) (hent : ∀ args w, (callFunc fn args).run Tryd.prog w = .ok (.enter fn args) w) (w : World)
    (h0 : w.cell? ⟨b, off, none⟩ = some (.int .u32 0)) (h1 : w.cell? ⟨b, off + 1, none⟩ = some (.int .i32 0)) (f0 : w.frozen? ⟨b, off, none⟩ = false) (f1 : w.frozen? ⟨b, off + 1, none⟩ = false)
    (G : World → Prop) (hf : Calls Tryd.prog fn lb (w.setCell ⟨b, off + 1, none⟩ (.int .i32 1)) fun e w' => e = .returned (.tuple #[]) ∧ G w')
    (hG : ∀ w', G w' → w'.cell? ⟨b, off, none⟩ = some (.int .u32 0) ∧ w'.frozen? ⟨b, off, none⟩ = false ∧ w'.cell? ⟨b, off + 1, none⟩ = some (.int .i32 1) ∧ w'.frozen? ⟨b, off + 1, none⟩ = false) :
    Calls Tryd.prog 37 #[.pointer (some ⟨b, off, none⟩), .func (.func fn) #[] lb] w fun e w' => e = .returned (.tuple #[]) ∧ ∃ x, G x ∧ w' = (x.drew.setCell ⟨b, off, none⟩ (.int .u32 1)).setCell ⟨b, off + 1, none⟩ (.int .i32 0) := by
  have hl := run_call_load (P := Tryd.prog) Tryd.func64 (by kernel_rfl) (by kernel_rfl) (by kernel_rfl) .u32 (by kernel_rfl) h0
  have hnot : ∀ (x : Bool) (w : World), (Op.unary .not (.bool x)).run Tryd.prog w = .ok (.bool (!x)) w := fun _ _ => rfl
  have HS := Lib.hid (once_slow b off fn lb hent w h0 h1 f0 f1 G hf hG)
  clear hent h0 h1 f0 f1 hf hG
  go_enter Tryd.func37, Tryd.ntmps37
  go_wp2_with (first
    | (go_at_call 53; refine HS.out.mono ?_; rintro e w' ⟨rfl, hx⟩)
    | (go_at_call 52; go_in))
  go_end0
  exact ⟨rfl, hx⟩

/-- Do, done already. -/
theorem once_done (a : Addr) (fv : Value) (w : World) (h0 : w.cell? a = some (.int .u32 1)) :
    Calls Tryd.prog 37 #[.pointer (some a), fv] w fun e w' => e = .returned (.tuple #[]) ∧ w' = w := by
  have hl := run_call_load (P := Tryd.prog) Tryd.func64 (by kernel_rfl) (by kernel_rfl) (by kernel_rfl) .u32 (by kernel_rfl) h0
  have hnot : ∀ (x : Bool) (w : World), (Op.unary .not (.bool x)).run Tryd.prog w = .ok (.bool (!x)) w := fun _ _ => rfl
  go_enter Tryd.func37, Tryd.ntmps37
  go_wp2
  go_end0
  exact ⟨rfl, rfl⟩
end Go.Proofs.YtjdbjgaoeijmfaaDoor
end
section
namespace Go.Proofs.YtjdbjgaoeijmfaaDoor
open Go.RowKit
set_option linter.unusedVariables false

/-- A Once: done or not, its lock. -/
def onceC (d m : Int) : List Value := [.int .u32 d, .int .i32 m, .int .u32 0]
/-- The maker's cells: its Meter, its key; the one Once and what it lays; the other one. -/
def makerL (g : Nat) (key : List UInt8) (d1 m1 : Int) (hk : List UInt8) (d2 m2 : Int) (tk : List UInt8) : List Value :=
  .pointer (some ⟨g, 0, none⟩) :: (cellsB key ++ (onceC d1 m1 ++ (cellsB hk ++ (onceC d2 m2 ++ cellsB tk))))
section
variable (g : Nat) (key hk tk : List UInt8) (d1 m1 d2 m2 : Int)
theorem makerL_length (lk : key.length = 32) (lh : hk.length = 32) (lt : tk.length = 32) : (makerL g key d1 m1 hk d2 m2 tk).length = 103 := by simp [makerL, onceC, cellsB_length, lk, lh, lt]
theorem makerL_0 (lk : key.length = 32) (lh : hk.length = 32) (lt : tk.length = 32) : (makerL g key d1 m1 hk d2 m2 tk)[0]? = some (.pointer (some ⟨g, 0, none⟩)) := rfl
theorem makerL_33 (lk : key.length = 32) (lh : hk.length = 32) (lt : tk.length = 32) : (makerL g key d1 m1 hk d2 m2 tk)[33]? = some (.int .u32 d1) := by
  rw [makerL, List.getElem?_cons_succ, List.getElem?_append_right (by rw [cellsB_length, lk]; omega), cellsB_length, lk]
  rfl
theorem makerL_34 (lk : key.length = 32) (lh : hk.length = 32) (lt : tk.length = 32) : (makerL g key d1 m1 hk d2 m2 tk)[34]? = some (.int .i32 m1) := by
  rw [makerL, List.getElem?_cons_succ, List.getElem?_append_right (by rw [cellsB_length, lk]; omega), cellsB_length, lk]
  rfl
theorem makerL_68 (lk : key.length = 32) (lh : hk.length = 32) (lt : tk.length = 32) : (makerL g key d1 m1 hk d2 m2 tk)[68]? = some (.int .u32 d2) := by
  rw [makerL, List.getElem?_cons_succ, List.getElem?_append_right (by rw [cellsB_length, lk]; omega), cellsB_length, lk, List.getElem?_append_right (by simp [onceC]), List.getElem?_append_right (by simp [onceC, cellsB_length, lh])]
  simp [onceC, cellsB_length, lh]
theorem makerL_69 (lk : key.length = 32) (lh : hk.length = 32) (lt : tk.length = 32) : (makerL g key d1 m1 hk d2 m2 tk)[69]? = some (.int .i32 m2) := by
  rw [makerL, List.getElem?_cons_succ, List.getElem?_append_right (by rw [cellsB_length, lk]; omega), cellsB_length, lk, List.getElem?_append_right (by simp [onceC]), List.getElem?_append_right (by simp [onceC, cellsB_length, lh])]
  simp [onceC, cellsB_length, lh]
theorem makerL_set33 (lk : key.length = 32) (lh : hk.length = 32) (lt : tk.length = 32) (x : Int) : (makerL g key d1 m1 hk d2 m2 tk).set 33 (.int .u32 x) = makerL g key x m1 hk d2 m2 tk := by
  rw [makerL, List.set_cons_succ, List.set_append_right _ _ (by rw [cellsB_length, lk]; omega), cellsB_length, lk]
  rfl
theorem makerL_set34 (lk : key.length = 32) (lh : hk.length = 32) (lt : tk.length = 32) (x : Int) : (makerL g key d1 m1 hk d2 m2 tk).set 34 (.int .i32 x) = makerL g key d1 x hk d2 m2 tk := by
  rw [makerL, List.set_cons_succ, List.set_append_right _ _ (by rw [cellsB_length, lk]; omega), cellsB_length, lk]
  rfl
theorem makerL_set68 (lk : key.length = 32) (lh : hk.length = 32) (lt : tk.length = 32) (x : Int) : (makerL g key d1 m1 hk d2 m2 tk).set 68 (.int .u32 x) = makerL g key d1 m1 hk x m2 tk := by
  rw [makerL, List.set_cons_succ, List.set_append_right _ _ (by rw [cellsB_length, lk]; omega), cellsB_length, lk, List.set_append_right _ _ (by simp [onceC]), List.set_append_right _ _ (by simp [onceC, cellsB_length, lh])]
  simp [onceC, cellsB_length, lh, makerL]
theorem makerL_set69 (lk : key.length = 32) (lh : hk.length = 32) (lt : tk.length = 32) (x : Int) : (makerL g key d1 m1 hk d2 m2 tk).set 69 (.int .i32 x) = makerL g key d1 m1 hk d2 x tk := by
  rw [makerL, List.set_cons_succ, List.set_append_right _ _ (by rw [cellsB_length, lk]; omega), cellsB_length, lk, List.set_append_right _ _ (by simp [onceC]), List.set_append_right _ _ (by simp [onceC, cellsB_length, lh])]
  simp [onceC, cellsB_length, lh, makerL]
theorem makerL_key (lk : key.length = 32) (lh : hk.length = 32) (lt : tk.length = 32) : ((makerL g key d1 m1 hk d2 m2 tk).drop 1).take 32 = cellsB key := by
  rw [makerL, List.drop_succ_cons, List.drop_zero, List.take_append_of_le_length (by rw [cellsB_length, lk]; omega), List.take_of_length_le (by rw [cellsB_length, lk]; omega)]
theorem makerL_hide (lk : key.length = 32) (lh : hk.length = 32) (lt : tk.length = 32) : ((makerL g key d1 m1 hk d2 m2 tk).drop 36).take 32 = cellsB hk := by
  have e : makerL g key d1 m1 hk d2 m2 tk = (.pointer (some ⟨g, 0, none⟩) :: (cellsB key ++ onceC d1 m1)) ++ (cellsB hk ++ (onceC d2 m2 ++ cellsB tk)) := by simp [makerL]
  rw [e, List.drop_left' (by simp [cellsB_length, lk, onceC]), List.take_left' (by rw [cellsB_length, lh])]
theorem makerL_tag (lk : key.length = 32) (lh : hk.length = 32) (lt : tk.length = 32) : ((makerL g key d1 m1 hk d2 m2 tk).drop 71).take 32 = cellsB tk := by
  have e : makerL g key d1 m1 hk d2 m2 tk = (.pointer (some ⟨g, 0, none⟩) :: (cellsB key ++ (onceC d1 m1 ++ (cellsB hk ++ onceC d2 m2)))) ++ cellsB tk := by simp [makerL]
  rw [e, List.drop_left' (by simp [cellsB_length, lk, lh, onceC]), List.take_of_length_le (by rw [cellsB_length, lt]; omega)]
theorem makerL_putHide (lk : key.length = 32) (lh : hk.length = 32) (lt : tk.length = 32) (x : List UInt8) (lx : x.length = 32) : (makerL g key d1 m1 hk d2 m2 tk).take 36 ++ cellsB x ++ (makerL g key d1 m1 hk d2 m2 tk).drop 68 = makerL g key d1 m1 x d2 m2 tk := by
  have e : makerL g key d1 m1 hk d2 m2 tk = (.pointer (some ⟨g, 0, none⟩) :: (cellsB key ++ onceC d1 m1)) ++ (cellsB hk ++ (onceC d2 m2 ++ cellsB tk)) := by simp [makerL]
  have e2 : makerL g key d1 m1 hk d2 m2 tk = (.pointer (some ⟨g, 0, none⟩) :: (cellsB key ++ (onceC d1 m1 ++ cellsB hk))) ++ (onceC d2 m2 ++ cellsB tk) := by simp [makerL]
  have t1 : (makerL g key d1 m1 hk d2 m2 tk).take 36 = .pointer (some ⟨g, 0, none⟩) :: (cellsB key ++ onceC d1 m1) := by rw [e, List.take_left' (by simp [cellsB_length, lk, onceC])]
  have t2 : (makerL g key d1 m1 hk d2 m2 tk).drop 68 = onceC d2 m2 ++ cellsB tk := by rw [e2, List.drop_left' (by simp [cellsB_length, lk, lh, onceC])]
  rw [t1, t2]
  simp [makerL]
theorem makerL_putTag (lk : key.length = 32) (lh : hk.length = 32) (lt : tk.length = 32) (x : List UInt8) (lx : x.length = 32) : (makerL g key d1 m1 hk d2 m2 tk).take 71 ++ cellsB x ++ (makerL g key d1 m1 hk d2 m2 tk).drop 103 = makerL g key d1 m1 hk d2 m2 x := by
  have e : makerL g key d1 m1 hk d2 m2 tk = (.pointer (some ⟨g, 0, none⟩) :: (cellsB key ++ (onceC d1 m1 ++ (cellsB hk ++ onceC d2 m2)))) ++ cellsB tk := by simp [makerL]
  have t1 : (makerL g key d1 m1 hk d2 m2 tk).take 71 = .pointer (some ⟨g, 0, none⟩) :: (cellsB key ++ (onceC d1 m1 ++ (cellsB hk ++ onceC d2 m2))) := by rw [e, List.take_left' (by simp [cellsB_length, lk, lh, onceC])]
  have t2 : (makerL g key d1 m1 hk d2 m2 tk).drop 103 = [] := List.drop_eq_nil_of_le (by simp [makerL, cellsB_length, lk, lh, lt, onceC])
  rw [t1, t2]
  simp [makerL]
end

/-- The maker lies at b. -/
def MakerAt (w : World) (b g : Nat) (key : List UInt8) (d1 m1 : Int) (hk : List UInt8) (d2 m2 : Int) (tk : List UInt8) : Prop := RowAt w b 61 (makerL g key d1 m1 hk d2 m2 tk).toArray ∧ key.length = 32 ∧ hk.length = 32 ∧ tk.length = 32
section
variable {w w' : World} {b g : Nat} {key hk tk : List UInt8} {d1 m1 d2 m2 : Int}
theorem MakerAt.cell (h : MakerAt w b g key d1 m1 hk d2 m2 tk) (i : Nat) : w.cell? ⟨b, i, none⟩ = (makerL g key d1 m1 hk d2 m2 tk)[i]? := by rw [h.1.cell i]; simp
theorem MakerAt.c0 (h : MakerAt w b g key d1 m1 hk d2 m2 tk) : w.cell? ⟨b, 0, none⟩ = some (.pointer (some ⟨g, 0, none⟩)) := (h.cell 0).trans (makerL_0 _ _ _ _ _ _ _ _ h.2.1 h.2.2.1 h.2.2.2)
theorem MakerAt.c33 (h : MakerAt w b g key d1 m1 hk d2 m2 tk) : w.cell? ⟨b, 33, none⟩ = some (.int .u32 d1) := (h.cell 33).trans (makerL_33 _ _ _ _ _ _ _ _ h.2.1 h.2.2.1 h.2.2.2)
theorem MakerAt.c34 (h : MakerAt w b g key d1 m1 hk d2 m2 tk) : w.cell? ⟨b, 34, none⟩ = some (.int .i32 m1) := (h.cell 34).trans (makerL_34 _ _ _ _ _ _ _ _ h.2.1 h.2.2.1 h.2.2.2)
theorem MakerAt.c68 (h : MakerAt w b g key d1 m1 hk d2 m2 tk) : w.cell? ⟨b, 68, none⟩ = some (.int .u32 d2) := (h.cell 68).trans (makerL_68 _ _ _ _ _ _ _ _ h.2.1 h.2.2.1 h.2.2.2)
theorem MakerAt.c69 (h : MakerAt w b g key d1 m1 hk d2 m2 tk) : w.cell? ⟨b, 69, none⟩ = some (.int .i32 m2) := (h.cell 69).trans (makerL_69 _ _ _ _ _ _ _ _ h.2.1 h.2.2.1 h.2.2.2)
theorem MakerAt.fz (h : MakerAt w b g key d1 m1 hk d2 m2 tk) (i : Nat) : w.frozen? ⟨b, i, none⟩ = false := h.1.frozen i
theorem MakerAt.kept (h : MakerAt w b g key d1 m1 hk d2 m2 tk) (hb : Below w.heap.size w w') : MakerAt w' b g key d1 m1 hk d2 m2 tk := ⟨h.1.kept hb, h.2⟩
theorem MakerAt.grown {row : Option Nat} (h : MakerAt w b g key d1 m1 hk d2 m2 tk) (hb : w.grownBy w' row) (hne : some b ≠ row) : MakerAt w' b g key d1 m1 hk d2 m2 tk := ⟨h.1.grown hb hne, h.2⟩
theorem MakerAt.drew (h : MakerAt w b g key d1 m1 hk d2 m2 tk) : MakerAt w.drew b g key d1 m1 hk d2 m2 tk := h
theorem MakerAt.put (h : MakerAt w b g key d1 m1 hk d2 m2 tk) (i : Nat) (v : Value) : RowAt (w.setCell ⟨b, i, none⟩ v) b 61 ((makerL g key d1 m1 hk d2 m2 tk).set i v).toArray := by
  have := h.1.put i v
  simpa using this
theorem MakerAt.p33 (h : MakerAt w b g key d1 m1 hk d2 m2 tk) (x : Int) : MakerAt (w.setCell ⟨b, 33, none⟩ (.int .u32 x)) b g key x m1 hk d2 m2 tk := ⟨by rw [← makerL_set33 g key hk tk d1 m1 d2 m2 h.2.1 h.2.2.1 h.2.2.2 x]; exact h.put 33 _, h.2⟩
theorem MakerAt.p34 (h : MakerAt w b g key d1 m1 hk d2 m2 tk) (x : Int) : MakerAt (w.setCell ⟨b, 34, none⟩ (.int .i32 x)) b g key d1 x hk d2 m2 tk := ⟨by rw [← makerL_set34 g key hk tk d1 m1 d2 m2 h.2.1 h.2.2.1 h.2.2.2 x]; exact h.put 34 _, h.2⟩
theorem MakerAt.p68 (h : MakerAt w b g key d1 m1 hk d2 m2 tk) (x : Int) : MakerAt (w.setCell ⟨b, 68, none⟩ (.int .u32 x)) b g key d1 m1 hk x m2 tk := ⟨by rw [← makerL_set68 g key hk tk d1 m1 d2 m2 h.2.1 h.2.2.1 h.2.2.2 x]; exact h.put 68 _, h.2⟩
theorem MakerAt.p69 (h : MakerAt w b g key d1 m1 hk d2 m2 tk) (x : Int) : MakerAt (w.setCell ⟨b, 69, none⟩ (.int .i32 x)) b g key d1 m1 hk d2 x tk := ⟨by rw [← makerL_set69 g key hk tk d1 m1 d2 m2 h.2.1 h.2.2.1 h.2.2.2 x]; exact h.put 69 _, h.2⟩
/-- Thirty-two of its cells, read as a key. -/
theorem MakerAt.range (h : MakerAt w b g key d1 m1 hk d2 m2 tk) (o : Nat) (l : List UInt8) (hl : ((makerL g key d1 m1 hk d2 m2 tk).drop o).take 32 = cellsB l) : w.rangeAt b o (cellsB l) := by
  intro j v hv
  rw [h.cell (o + j)]
  rw [← hl, List.getElem?_take] at hv
  split at hv
  · rwa [List.getElem?_drop] at hv
  · cases hv
end
end Go.Proofs.YtjdbjgaoeijmfaaDoor
end
section
namespace Go.Proofs.YtjdbjgaoeijmfaaDoor
set_option linter.unusedVariables false

section
variable {P : Program} {ops : Array Oper} {md : Region.Mode} {C : World → Prop}

/-- In whatever order the first operations come up, each is quiet; behind them L. -/
def headQ (P : Program) (md : Region.Mode) (ops : Array Oper) (C : World → Prop) (n : Nat) (L : Array Bool → Act → Prop) : Nat → Array Bool → Act → Prop
  | 0 => L
  | f + 1 => fun listed a => Region.ready md ops listed ≠ [] ∧ ∀ i ∈ Region.ready md ops listed, i < n ∧ qOp P ops C i (headQ P md ops C n L f (listed.setIfInBounds i true)) a

theorem any_of_headQ {n g : Nat} {L : Array Bool → Act → Prop} {Q : Exit → Act → World → Prop} (hL : ∀ listed a w, C w → L listed a → wpAny P md ops Q g listed a w) (f : Nat) :
    ∀ (listed : Array Bool) (a : Act) (w : World), C w → headQ P md ops C n L f listed a → wpAny P md ops Q (f + g) listed a w := by
  induction f with
  | zero => intro listed a w hw h; rw [Nat.zero_add]; exact hL _ _ _ hw h
  | succ f ih =>
    intro listed a w hw h
    rw [show f + 1 + g = (f + g) + 1 by omega]
    exact ⟨fun h0 => absurd h0 h.1, fun i hi => wpOp_of_qOp hw (fun a' w' hw' h' => ih _ a' w' hw' h') (h.2 i hi).2⟩

/-- What of the head is ready may be taken first. -/
theorem headQ_first {n i : Nat} {oi : Oper} {v : Value} {L : Array Bool → Act → Prop} (hi : ops[i]? = some oi) (hsel : ∀ (j : Nat) (o : Oper) cs b, ops[j]? = some o → o.op ≠ .select cs b)
    (hs : Region.sinkB md ops n = true) (hc : Region.chainB md ops n = true) (hn : n < ops.size) (hin : i < n)
    (hdone : ∀ listed a, L listed a → ∀ j ∈ Region.ready md ops listed, n ≤ j) (f : Nat) :
    ∀ (listed : Array Bool) (a : Act), HeadInv md ops n listed →
      (∀ j oj, ops[j]? = some oj → j ≠ i → listed.getD j true = false → (∀ e ∈ oj.after, Region.binds md e = true → e.on ≠ i) → oi.apart ops oj = true) →
      i ∈ Region.ready md ops listed → YieldsIn P ops C oi v a →
      headQ P md ops C n L f (listed.setIfInBounds i true) (a.put oi.dst v) → headQ P md ops C n L (f + 1) listed a := by
  induction f with
  | zero =>
    intro listed a inv _ hr hy H
    refine ⟨fun h0 => (by rw [h0] at hr; cases hr), fun j hj => ?_⟩
    have hlt : j < n := Nat.lt_of_not_le fun hge => tail_waits hs hc hn inv _ i rfl hin (mem_ready.1 hr).1 j hge hj
    refine ⟨hlt, ?_⟩
    by_cases e : j = i
    · rw [e]; exact hy.qOp hi H
    · exact absurd hlt (Nat.not_lt.2 (hdone _ _ H j (ready_mono hj e)))
  | succ f ih =>
    intro listed a inv free hr hy H
    refine ⟨fun h0 => (by rw [h0] at hr; cases hr), fun j hj => ?_⟩
    have hlt : j < n := Nat.lt_of_not_le fun hge => tail_waits hs hc hn inv _ i rfl hin (mem_ready.1 hr).1 j hge hj
    refine ⟨hlt, ?_⟩
    by_cases e : j = i
    · rw [e]; exact hy.qOp hi H
    · obtain ⟨hun, oj, hoj, hall⟩ := mem_ready.1 hj
      have hno : ∀ x ∈ oj.after, Region.binds md x = true → x.on ≠ i := fun x hx hb hon => by
        have h1 := hall x hx hb
        rw [hon, getD_both (mem_ready.1 hr).1] at h1
        cases h1
      have hboth := qOp_put hoj (free j oj hoj e hun hno) (fun cs b => hsel i oi cs b hi) (fun cs b => hsel j oj cs b hoj) hy (H.2 j (ready_mono hj e)).2
      refine qOp_mono (fun a' h3 => ?_) hboth
      refine ih _ a' (inv.set hj hlt) (fun k ok hk hki hkun hkno => ?_) (ready_mono hr (Ne.symm e)) h3.1 ?_
      · refine free k ok hk hki ?_ hkno
        rcases Nat.decEq j k with hne | heq
        · rwa [getD_set_ne true hne] at hkun
        · rw [← heq]; exact hun
      · rw [Array.setIfInBounds_comm _ _ e]; exact h3.2

theorem headQ_lex {n g : Nat} {K : Act → Prop} (hsel : Region.noSelect ops = true) (hs : Region.sinkB md ops n = true) (hc : Region.chainB md ops n = true) (hn : n < ops.size) (l : List Oper) :
    ∀ (k : Nat) (listed : Array Bool) (a : Act), (∀ j, j < l.length → l[j]? = ops[k + j]?) → k + l.length = n → HeadInv md ops n listed →
    Region.lexHead md ops g l.length k listed = true → wpQuiet P ops C K l a →
    headQ P md ops C n (fun listed' a' => Region.seqB md ops g n listed' = true ∧ K a') l.length listed a := by
  induction l with
  | nil =>
    intro k listed a _ hk _ hB h
    obtain rfl : k = n := by simpa using hk
    exact ⟨by simpa [Region.lexHead] using hB, h⟩
  | cons o l ih =>
    intro k listed a hl hk inv hB h
    simp only [List.length_cons, Region.lexHead, Bool.and_eq_true] at hB hk
    have h0 : ops[k]? = some o := by simpa using (hl 0 (by simp)).symm
    have hst : qOp P ops C k (wpQuiet P ops C K l) a := by unfold qOp; simp only [h0]; exact h
    obtain ⟨v, hy, hK⟩ := yieldsIn_of_qOp h0 hst
    have hr : k ∈ Region.ready md ops listed := by simpa using hB.1.1
    refine headQ_first h0 (Region.noSelect_spec hsel) hs hc hn (by omega) (fun _ _ hL => seqB_ready hL.1) l.length listed a inv (Region.free_spec h0 hB.1.2) hr hy ?_
    refine ih (k + 1) _ _ (fun j hj => ?_) (by omega) (inv.set hr (by omega)) hB.2 hK
    have := hl (j + 1) (by simp; omega)
    simpa [Nat.add_assoc, Nat.add_comm 1 j] using this

/-- THE WAY IN: the first n operations quiet in 'w after some draws', walked in the text's order; the others in one row. -/
theorem region_quiet_tail {id : Nat} {Q : Exit → Act → World → Prop} {a : Act} {w : World} {l : List Oper} (n : Nat) (hm : P.follows .mixedOrders = true) (hB : Region.lexTailB .any l.toArray n = true)
    (h : wpQuiet P l.toArray (fun w' => ∃ n, w' = w.drewN n) (fun a' => ∀ w', (∃ n, w' = w.drewN n) → wpList P l.toArray Q (l.drop n) a' w') (l.take n) a) : (Code.region id l.toArray true).wp P Q a w := by
  simp only [Region.lexTailB, Bool.and_eq_true, decide_eq_true_eq] at hB
  obtain ⟨⟨⟨⟨hsel, hn⟩, hs⟩, hc⟩, hlex⟩ := hB
  have hn' : n < l.length := by simpa using hn
  have htl : (l.take n).length = n := by rw [List.length_take]; omega
  have hdl : (l.drop n).length = l.toArray.size - n := by simp
  have H := headQ_lex (md := .any) (g := l.toArray.size - n) hsel hs hc hn (l.take n) 0 (Array.replicate l.toArray.size false) a
    (fun j hj => by rw [htl] at hj; simp [hj]) (by rw [htl]; omega)
    ⟨by simp, fun j oj _ hl => (by rw [getD_replicate_false] at hl; cases hl), fun t _ ht => getD_in (by simpa using ht) (getD_replicate_false _ _)⟩ (by rw [htl]; exact hlex) h
  refine wp_region_any hm ?_
  have A := any_of_headQ (Q := Q) (g := l.toArray.size - n) (fun listed a' w' hw' hL => by
    have := wpAny_of_seq (md := .any) (Q' := Q) (l.drop n) n listed a' w' (fun j => by simp [List.getElem?_drop]) (by rw [hdl]; exact hL.1) (hL.2 w' hw')
    rwa [hdl] at this) (l.take n).length _ _ { w with drawn := w.drawn + 1 } ⟨1, rfl⟩ H
  rw [htl, show n + (l.toArray.size - n) = l.toArray.size by omega] at A
  exact A
end
end Go.Proofs.YtjdbjgaoeijmfaaDoor
end
