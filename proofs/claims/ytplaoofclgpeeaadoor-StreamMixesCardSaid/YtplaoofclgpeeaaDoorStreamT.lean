/-
  Contract of the document's own Block. Conditions: as each theorem names them.
-/
import Derived.Test.YtplaoofclgpeeaaDoorStreamS
namespace Go.Proofs.YtplaoofclgpeeaaDoor
open Go.RowKit
set_option linter.unusedVariables false
set_option maxRecDepth 20000

theorem take_step (l : List UInt8) (k : Nat) (h : k < l.length) : l.take (k + 1) = l.take k ++ [l.getD k 0] := by
  rw [List.take_succ_eq_append_getElem h]
  simp [List.getD_eq_getElem?_getD, h]
theorem quo4 (k q r : Nat) (h : k = 4 * q + r) (hr : r < 4) : Int.tdiv (k : Int) 4 = (q : Int) := by
  rw [Int.tdiv_eq_ediv_of_nonneg (by omega)]; omega
theorem rem4 (k q r : Nat) (h : k = 4 * q + r) (hr : r < 4) : Int.tmod (k : Int) 4 = (r : Int) := by
  rw [Int.tmod_eq_emod_of_nonneg (by omega)]; omega

set_option maxHeartbeats 4000000 in
theorem refBlock_any (w : World) (key nonce : List UInt8) (ctr : UInt32) (hk : key.length = 32) (hn : nonce.length = 12) :
    Calls Tryd.prog 13 #[keyV key, .int .u32 (ctr.toNat : Int), keyV nonce] w (RetV w (keyV (blockS key ctr nonce))) := by
  obtain ⟨fin, hfin⟩ : ∃ fin, fin = blockS key ctr nonce := ⟨_, rfl⟩
  have HFL : Hid (fin.length = 64) := by show _ = _; rw [hfin, blockS_length]
  rw [← hfin]
  obtain ⟨fst, hfst⟩ : ∃ fst, fst = firstS key ctr nonce := ⟨_, rfl⟩
  have L0 : Hid (fst.length = 16) := by show _ = _; rw [hfst, firstS_length]
  have HF : Hid (fin = bytesLow (List.zipWith (· + ·) (runS fst 80) fst)) := by show _ = _; rw [hfin, hfst]; rfl
  have HFS : Hid (fst = tailS key ctr nonce 3) := hfst
  have LR : Hid (∀ k, (runS fst k).length = 16) := fun k => by rw [runS_length, L0.out]
  have HK := Lib.hid hk
  have HN := Lib.hid hn
  have hctr := ctr.toNat_lt
  clear hfin hfst hk hn
  go_enter Tryd.func13, Tryd.ntmps13
  go_wp2_with (first
    | ((with_reducible refine wpList_box_row (o := ⟨some 3, _, _, _, _, _⟩) rfl 26 (.tmp 0) rfl (keyC key) (by with_unfolding_all rfl) ?_); intro g1 w1 n1)
    | ((with_reducible refine wpList_box_row (o := ⟨some 5, _, _, _, _, _⟩) rfl 27 (.tmp 2) rfl (keyC nonce) (by with_unfolding_all rfl) ?_); intro g2 w2 n2)
    | ((with_reducible refine wpList_alloc_row (o := ⟨some 6, _, _, _, _, _⟩) rfl 31 rfl (keyC zero64B) Tryd.zero64B ?_); intro g3 w3 n3)
    | ((with_reducible refine wpList_alloc_row (o := ⟨some 7, _, _, _, _, _⟩) rfl 23 rfl (wordsC zeroW) Tryd.zeroW16 ?_); intro g4 w4 n4)
    | ((with_reducible refine wpList_store_row (o := ⟨none, _, _, _, _, _⟩) rfl 23 (.tmp 7) (.tmp 16) rfl g4 23 _ (wordsC (fillW constsW 16)) (by with_unfolding_all rfl) (by with_unfolding_all exact litsV) n4.row (wordsC_same zeroW_length initW_length) (Tryd.sizeW16 _ initW_length) (wordsC_one _) ?_); intro w5 p5))
  have hg1 : w.heap.size ≤ g1 := Nat.le_of_eq n1.spot.symm
  have s1 := n1.row.lt
  have s2 := n2.row.lt
  have s3 := n3.row.lt
  have e2 := n2.spot
  have e3 := n3.spot
  have e4 := n4.spot
  have z1 := n1.size
  have z2 := n2.size
  have z3 := n3.size
  have hg3 : w.heap.size ≤ g3 := by omega
  have hg4 : w.heap.size ≤ g4 := by omega
  have h14 : g1 ≠ g4 := by omega
  have h24 : g2 ≠ g4 := by omega
  have h34 : g3 ≠ g4 := by omega
  have B4 : Below w.heap.size w w4 := below_size (below_size (below_size n1.below n2.below) n3.below) n4.below
  have hr1 : RowAt w5 g1 26 (keyC key) := (((n1.row.kept n2.below).kept n3.below).kept n4.below).grown p5.grown (by intro h; injection h with h; omega)
  have hr2 : RowAt w5 g2 27 (keyC nonce) := ((n2.row.kept n3.below).kept n4.below).grown p5.grown (by intro h; injection h with h; omega)
  have hr3 : RowAt w5 g3 31 (keyC zero64B) := (n3.row.kept n4.below).grown p5.grown (by intro h; injection h with h; omega)
  have hr4 : RowAt w5 g4 23 (wordsC (fillW (headS key 0) 16)) := by rw [headS_zero]; exact p5.row
  have B5 : Below w.heap.size w w5 := p5.below B4 B4.size hg4
  clear n1 n2 n3 n4 p5 s1 s2 s3 e2 e3 e4 z1 z2 z3 B4
  go_loopw [8] (fun i wr => ∃ k : Nat, k ≤ 8 ∧ i = .int .i64 k ∧ RowAt wr g1 26 (keyC key) ∧ RowAt wr g2 27 (keyC nonce) ∧ RowAt wr g3 31 (keyC zero64B) ∧ RowAt wr g4 23 (wordsC (fillW (headS key k) 16)) ∧ Below w.heap.size w wr) (fun i _ => 8 - (intOf i).toNat)
  case atStart => exact ⟨0, by omega, rfl, hr1, hr2, hr3, hr4, B5⟩
  case round =>
    clear hr1 hr2 hr3 hr4 B5
    obtain ⟨k, hk, rfl, hr1, hr2, hr3, hr4, hb⟩ := hrel
    have R1 := Lib.hid hr1
    have R2 := Lib.hid hr2
    have R3 := Lib.hid hr3
    have R4 := Lib.hid hr4
    have HB := Lib.hid hb
    clear hr1 hr2 hr3 hr4 hb
    by_cases hlt : k < 8
    · have hsl := fun x : World => run_sliceArr (P := Tryd.prog) x 26 5 32 Tryd.underlying26 Tryd.sizeB g1 0 (4 * k) (4 * k + 4) (4 * (k : Int)) (4 * (k : Int) + 4) (by omega) (by omega) (by omega) (by omega) (by omega)
      rw [Nat.zero_add, show 4 * k + 4 - 4 * k = 4 by omega] at hsl
      have HBS := Lib.hid (fun W (h : RowAt W g1 26 (keyC key)) => Bs.part h (4 * k) 4 (32 - 4 * k) (by rw [HK.out]; omega) (by omega) (by unfold maxLen; omega))
      have HL4 : Hid (((key.drop (4 * k)).take 4).length = 4) := by show _ = _; simp [HK.out]; omega
      have hw4 : IntKind.i64.wrap (4 * (k : Int)) = 4 * (k : Int) := IntWalk.i64_in _ (by omega)
      have hw5 : IntKind.i64.wrap (4 * (k : Int) + 4) = 4 * (k : Int) + 4 := IntWalk.i64_in _ (by omega)
      go_wp2_with fail
      refine (word_any _ _ _ (HBS.out _ R1.out) HL4.out).mono ?_
      rintro e w' ⟨rfl, n, rfl⟩
      rw [show UInt32.ofNat (ofLowB ((key.drop (4 * k)).take 4)) = wordLow key k from rfl]
      have hcell := wordsC_cell (R4.out.drewN n) (4 + k) (by rw [fillW_length _ _ (by rw [headS_length]; omega)]; omega)
      have hfz := (R4.out.drewN n).frozen (4 + k)
      have hput := (R4.out.drewN n).put (4 + k) (.int .u32 ((wordLow key k).toNat : Int))
      have hst := fillW_step (headS key k) 16 (wordLow key k) (by rw [headS_length]; omega)
      rw [headS_length, ← headS_succ] at hst
      rw [wordsC_put, hst] at hput
      have HP := Lib.hid hput
      generalize (fillW (headS key k) 16).getD (4 + k) 0 = old at hcell
      have hq : 4 + (k : Int) < 16 := by omega
      clear hput hst hsl HBS HL4 hw4 hw5
      go_wp2
      go_roundw
      case rel => exact ⟨k + 1, by omega, by go_num, (R1.out.drewN n).far (by show g1 ≠ g4; exact h14) _, (R2.out.drewN n).far (by show g2 ≠ g4; exact h24) _, (R3.out.drewN n).far (by show g3 ≠ g4; exact h34) _, HP.out, (below_drewN HB.out n).setCell hg4 _⟩
      case measure => simp [intOf]; omega
    · have hk8 : k = 8 := by omega
      have R42 : Hid (RowAt wr g4 23 (wordsC (fillW (headS key 8) 16))) := by rw [← hk8]; exact R4
      have hcell := wordsC_cell R42.out 12 (by rw [fillW_length _ _ (by rw [headS_length]; omega)]; omega)
      have hfz := R42.out.frozen 12
      have hput := R42.out.put 12 (.int .u32 (ctr.toNat : Int))
      have hst := fillW_step (headS key 8) 16 ctr (by rw [headS_length]; omega)
      rw [headS_length, ← tailS_zero key ctr nonce] at hst
      rw [wordsC_put, show (fillW (headS key 8) 16).set 12 ctr = _ from hst] at hput
      generalize (fillW (headS key 8) 16).getD 12 0 = old at hcell
      have HP := Lib.hid hput
      clear hput hst hk8 R4
      have B42 : Hid (Below w.heap.size w (wr.setCell ⟨g4, 12, none⟩ (.int .u32 (ctr.toNat : Int)))) := HB.out.setCell hg4 _
      have R22 : Hid (RowAt (wr.setCell ⟨g4, 12, none⟩ (.int .u32 (ctr.toNat : Int))) g2 27 (keyC nonce)) := R2.out.far (by show g2 ≠ g4; exact h24) _
      have R32 : Hid (RowAt (wr.setCell ⟨g4, 12, none⟩ (.int .u32 (ctr.toNat : Int))) g3 31 (keyC zero64B)) := R3.out.far (by show g3 ≠ g4; exact h34) _
      go_wp2
      clear hcell hfz R1 R2 R3 R42 HB
      go_loopw [9] (fun i wr => ∃ k : Nat, k ≤ 3 ∧ i = .int .i64 k ∧ RowAt wr g2 27 (keyC nonce) ∧ RowAt wr g3 31 (keyC zero64B) ∧ RowAt wr g4 23 (wordsC (fillW (tailS key ctr nonce k) 16)) ∧ Below w.heap.size w wr) (fun i _ => 3 - (intOf i).toNat)
      case atStart => exact ⟨0, by omega, rfl, R22.out, R32.out, HP.out, B42.out⟩
      case round =>
        clear R22 R32 HP B42
        rename_i k0 _ _ _ _
        obtain ⟨k, hk, rfl, hr2, hr3, hr4, hb⟩ := hrel
        have R2 := Lib.hid hr2
        have R3 := Lib.hid hr3
        have R4 := Lib.hid hr4
        have HB := Lib.hid hb
        clear hr2 hr3 hr4 hb
        by_cases hlt3 : k < 3
        · have hsl := fun x : World => run_sliceArr (P := Tryd.prog) x 27 5 12 Tryd.underlying27 Tryd.sizeB g2 0 (4 * k) (4 * k + 4) (4 * (k : Int)) (4 * (k : Int) + 4) (by omega) (by omega) (by omega) (by omega) (by omega)
          rw [Nat.zero_add, show 4 * k + 4 - 4 * k = 4 by omega] at hsl
          have HBS := Lib.hid (fun W (h : RowAt W g2 27 (keyC nonce)) => Bs.part h (4 * k) 4 (12 - 4 * k) (by rw [HN.out]; omega) (by omega) (by unfold maxLen; omega))
          have HL4 : Hid (((nonce.drop (4 * k)).take 4).length = 4) := by show _ = _; simp [HN.out]; omega
          have hw4 : IntKind.i64.wrap (4 * (k : Int)) = 4 * (k : Int) := IntWalk.i64_in _ (by omega)
          have hw5 : IntKind.i64.wrap (4 * (k : Int) + 4) = 4 * (k : Int) + 4 := IntWalk.i64_in _ (by omega)
          go_wp2_with fail
          refine (word_any _ _ _ (HBS.out _ R2.out) HL4.out).mono ?_
          rintro e w' ⟨rfl, n, rfl⟩
          rw [show UInt32.ofNat (ofLowB ((nonce.drop (4 * k)).take 4)) = wordLow nonce k from rfl]
          have hcell := wordsC_cell (R4.out.drewN n) (13 + k) (by rw [fillW_length _ _ (by rw [tailS_length]; omega)]; omega)
          have hfz := (R4.out.drewN n).frozen (13 + k)
          have hput := (R4.out.drewN n).put (13 + k) (.int .u32 ((wordLow nonce k).toNat : Int))
          have hst := fillW_step (tailS key ctr nonce k) 16 (wordLow nonce k) (by rw [tailS_length]; omega)
          rw [tailS_length, ← tailS_succ] at hst
          rw [wordsC_put, hst] at hput
          have HP := Lib.hid hput
          generalize (fillW (tailS key ctr nonce k) 16).getD (13 + k) 0 = old at hcell
          have hq : 13 + (k : Int) < 16 := by omega
          clear hput hst hsl HBS HL4 hw4 hw5
          go_wp2
          go_roundw
          case rel => exact ⟨k + 1, by omega, by go_num, (R2.out.drewN n).far (by show g2 ≠ g4; exact h24) _, (R3.out.drewN n).far (by show g3 ≠ g4; exact h34) _, HP.out, (below_drewN HB.out n).setCell hg4 _⟩
          case measure => simp [intOf]; omega
        · have hk3 : k = 3 := by omega
          have R43 : Hid (RowAt wr g4 23 (wordsC fst)) := by
            have := R4.out
            rw [hk3, fillW_all _ _ (tailS_length key ctr nonce 3), ← HFS.out] at this
            exact this
          clear hk3 R4 R2 HK HN HFS
          go_wp2_with (first
            | (with_reducible refine wpList_load_row (o := ⟨some 47, _, _, _, _, _⟩) rfl 23 (.tmp 7) rfl g4 (by with_unfolding_all rfl) 23 (wordsC fst) (0, 0) (.array 16 22) (by with_unfolding_all exact R43.out) Tryd.underlying23 rfl (Tryd.sizeW16 fst L0.out) ?_)
            | ((with_reducible refine wpList_alloc_row (o := ⟨some 10, _, _, _, _, _⟩) rfl 23 rfl (wordsC zeroW) Tryd.zeroW16 ?_); intro g7 w7 n7)
            | ((with_reducible refine wpList_store_row (o := ⟨none, _, _, _, _, _⟩) rfl 23 (.tmp 10) (.tmp 47) rfl g7 23 _ (wordsC fst) (by with_unfolding_all rfl) (by with_unfolding_all rfl) n7.row (wordsC_same zeroW_length L0.out) (Tryd.sizeW16 fst L0.out) (wordsC_one fst) ?_); intro w8 p8))
          have e7 := n7.spot
          have z7 := HB.out.size
          have l3 := R3.out.lt
          have l4 := R43.out.lt
          have hg7 : w.heap.size ≤ g7 := by omega
          have h37 : g3 ≠ g7 := by omega
          have h47 : g4 ≠ g7 := by omega
          have B7 : Below w.heap.size w w7 := below_size HB.out n7.below
          have B8 : Hid (Below w.heap.size w w8) := p8.below B7 B7.size hg7
          have R38 : Hid (RowAt w8 g3 31 (keyC zero64B)) := (R3.out.kept n7.below).grown p8.grown (by intro h; injection h with h; omega)
          have R48 : Hid (RowAt w8 g4 23 (wordsC fst)) := (R43.out.kept n7.below).grown p8.grown (by intro h; injection h with h; omega)
          have R78 : Hid (RowAt w8 g7 23 (wordsC (runS fst (8 * 0)))) := p8.row
          clear n7 p8 e7 z7 l3 l4 B7 R3 R43 HB
          go_loopw [11] (fun i wr => ∃ k : Nat, k ≤ 10 ∧ i = .int .i64 k ∧ RowAt wr g3 31 (keyC zero64B) ∧ RowAt wr g4 23 (wordsC fst) ∧ RowAt wr g7 23 (wordsC (runS fst (8 * k))) ∧ Below w.heap.size w wr) (fun i _ => 10 - (intOf i).toNat)
          case atStart => exact ⟨0, by omega, rfl, R38.out, R48.out, R78.out, B8.out⟩
          case round =>
            clear R38 R48 R78 B8
            rename_i k1 _ _ _ _
            obtain ⟨k, hk, rfl, hr3, hr4, hr7, hb⟩ := hrel
            have R3 := Lib.hid hr3
            have R4 := Lib.hid hr4
            have R7 := Lib.hid hr7
            have HB := Lib.hid hb
            clear hr3 hr4 hr7 hb
            by_cases hlt : k < 10
            · go_wp2
              go_loopw [12] (fun i wr => ∃ j : Nat, j ≤ 4 ∧ i = .int .i64 j ∧ RowAt wr g3 31 (keyC zero64B) ∧ RowAt wr g4 23 (wordsC fst) ∧ RowAt wr g7 23 (wordsC (runS fst (8 * k + j))) ∧ Below w.heap.size w wr) (fun i _ => 4 - (intOf i).toNat)
              case atStart => exact ⟨0, by omega, rfl, R3.out, R4.out, R7.out, HB.out⟩
              case round =>
                clear R3 R4 R7 HB
                rename_i k2 _ _ _ _
                obtain ⟨j, hj, rfl, hr3, hr4, hr7, hb⟩ := hrel
                have R3 := Lib.hid hr3
                have R4 := Lib.hid hr4
                have R7 := Lib.hid hr7
                have HB := Lib.hid hb
                clear hr3 hr4 hr7 hb
                by_cases hlj : j < 4
                · have HQA := fun (x : World) (a b c d : Int) (ha : a = (j : Int)) (hb : b = 4 + (j : Int)) (hc : c = 8 + (j : Int)) (hd : d = 12 + (j : Int)) => (quarter_row fst k j hlj a b c d ha hb hc hd) ▸ refQuarter_any x (runS fst (8 * k + j)) (LR.out _) a b c d
                  have HQB := Lib.hid HQA
                  have HLJ := Lib.hid (LR.out (8 * k + j))
                  have HLN := Lib.hid (LR.out (8 * k + (j + 1)))
                  clear HQA
                  generalize runS fst (8 * k + j) = va at *
                  generalize hvb : runS fst (8 * k + (j + 1)) = vb at *
                  have HVB := Lib.hid hvb
                  clear hvb
                  go_wp2_with (with_reducible refine wpList_load_row (o := ⟨some 56, _, _, _, _, _⟩) rfl 23 (.tmp 10) rfl g7 (by with_unfolding_all rfl) 23 (wordsC va) (0, 0) (.array 16 22) (by with_unfolding_all exact R7.out) Tryd.underlying23 rfl (Tryd.sizeW16 va HLJ.out) ?_)
                  refine (HQB.out _ _ _ _ _ (by go_num) (by go_num) (by go_num) (by go_num)).mono ?_
                  rintro e w3 ⟨rfl, b3⟩
                  have Rx3 : Hid (RowAt w3 g3 31 (keyC zero64B)) := R3.out.kept b3
                  have Rx4 : Hid (RowAt w3 g4 23 (wordsC fst)) := R4.out.kept b3
                  have Rx7 : Hid (RowAt w3 g7 23 (wordsC va)) := R7.out.kept b3
                  have Bx : Hid (Below w.heap.size w w3) := below_size HB.out b3
                  clear b3 HQB R3 R4 R7 HB
                  go_wp2_with ((with_reducible refine wpList_store_row (o := ⟨none, _, _, _, _, _⟩) rfl 23 (.tmp 10) (.tmp 64) rfl g7 23 _ (wordsC vb) (by with_unfolding_all rfl) (by with_unfolding_all rfl) Rx7.out (wordsC_same HLJ.out HLN.out) (Tryd.sizeW16 vb HLN.out) (wordsC_one vb) ?_); intro w4 p4)
                  go_roundw
                  case rel => simp only [show decide ((k : Int) < 10) = true from decide_eq_true (by omega)]; refine ⟨.int .i64 ((j : Int) + 1), _, _, _, _, _, _, _, _, _, _, _, _, _, ⟨j + 1, by omega, by go_num, Rx3.out.grown p4.grown (by intro h; injection h with h; omega), Rx4.out.grown p4.grown (by intro h; injection h with h; omega), by rw [HVB.out]; exact p4.row, p4.below Bx.out Bx.out.size hg7⟩, rfl⟩
                  case measure => simp [intOf]; omega
                · have hj4 : j = 4 := by omega
                  have R74 : Hid (RowAt wr g7 23 (wordsC (runS fst (8 * k + (4 + 0))))) := by
                    rw [show 8 * k + (4 + 0) = 8 * k + j by omega]
                    exact R7
                  clear hj4 R7
                  go_wp2
                  go_loopw [13] (fun i wr => ∃ j : Nat, j ≤ 4 ∧ i = .int .i64 j ∧ RowAt wr g3 31 (keyC zero64B) ∧ RowAt wr g4 23 (wordsC fst) ∧ RowAt wr g7 23 (wordsC (runS fst (8 * k + (4 + j)))) ∧ Below w.heap.size w wr) (fun i _ => 4 - (intOf i).toNat)
                  case atStart => exact ⟨0, by omega, rfl, R3.out, R4.out, R74.out, HB.out⟩
                  case round =>
                    clear R3 R4 R74 HB
                    rename_i k3 _ _ _ _
                    obtain ⟨j, hj, rfl, hr3, hr4, hr7, hb⟩ := hrel
                    have R3 := Lib.hid hr3
                    have R4 := Lib.hid hr4
                    have R7 := Lib.hid hr7
                    have HB := Lib.hid hb
                    clear hr3 hr4 hr7 hb
                    by_cases hlj : j < 4
                    · have HQA := fun (x : World) (a b c d : Int) (ha : a = (j : Int)) (hb : b = 4 + ((j + 1) % 4 : Nat)) (hc : c = 8 + ((j + 2) % 4 : Nat)) (hd : d = 12 + ((j + 3) % 4 : Nat)) => (quarter_diag fst k j hlj a b c d ha hb hc hd) ▸ refQuarter_any x (runS fst (8 * k + (4 + j))) (LR.out _) a b c d
                      have HQB := Lib.hid HQA
                      have HLJ := Lib.hid (LR.out (8 * k + (4 + j)))
                      have HLN := Lib.hid (LR.out (8 * k + (4 + (j + 1))))
                      clear HQA
                      generalize runS fst (8 * k + (4 + j)) = va at *
                      generalize hvb : runS fst (8 * k + (4 + (j + 1))) = vb at *
                      have HVB := Lib.hid hvb
                      clear hvb
                      have m1 : Int.tmod ((j : Int) + 1) 4 = ((j + 1) % 4 : Nat) := by rw [Int.tmod_eq_emod_of_nonneg (by omega)]; omega
                      have m2 : Int.tmod ((j : Int) + 2) 4 = ((j + 2) % 4 : Nat) := by rw [Int.tmod_eq_emod_of_nonneg (by omega)]; omega
                      have m3 : Int.tmod ((j : Int) + 3) 4 = ((j + 3) % 4 : Nat) := by rw [Int.tmod_eq_emod_of_nonneg (by omega)]; omega
                      have b1 : (j + 1) % 4 < 4 := Nat.mod_lt _ (by omega)
                      have b2 : (j + 2) % 4 < 4 := Nat.mod_lt _ (by omega)
                      have b3' : (j + 3) % 4 < 4 := Nat.mod_lt _ (by omega)
                      go_wp2_with (with_reducible refine wpList_load_row (o := ⟨some 69, _, _, _, _, _⟩) rfl 23 (.tmp 10) rfl g7 (by with_unfolding_all rfl) 23 (wordsC va) (0, 0) (.array 16 22) (by with_unfolding_all exact R7.out) Tryd.underlying23 rfl (Tryd.sizeW16 va HLJ.out) ?_)
                      refine (HQB.out _ _ _ _ _ (by go_num) (by go_num) (by go_num) (by go_num)).mono ?_
                      rintro e w3 ⟨rfl, b3⟩
                      have Rx3 : Hid (RowAt w3 g3 31 (keyC zero64B)) := R3.out.kept b3
                      have Rx4 : Hid (RowAt w3 g4 23 (wordsC fst)) := R4.out.kept b3
                      have Rx7 : Hid (RowAt w3 g7 23 (wordsC va)) := R7.out.kept b3
                      have Bx : Hid (Below w.heap.size w w3) := below_size HB.out b3
                      clear b3 HQB R3 R4 R7 HB
                      go_wp2_with ((with_reducible refine wpList_store_row (o := ⟨none, _, _, _, _, _⟩) rfl 23 (.tmp 10) (.tmp 83) rfl g7 23 _ (wordsC vb) (by with_unfolding_all rfl) (by with_unfolding_all rfl) Rx7.out (wordsC_same HLJ.out HLN.out) (Tryd.sizeW16 vb HLN.out) (wordsC_one vb) ?_); intro w4 p4)
                      go_roundw
                      case rel => simp only [show decide ((k : Int) < 10) = true from decide_eq_true (by omega)]; refine ⟨.int .i64 ((j : Int) + 1), _, _, _, _, _, _, _, _, _, _, _, _, _, _, _, _, _, _, _, ⟨j + 1, by omega, by go_num, Rx3.out.grown p4.grown (by intro h; injection h with h; omega), Rx4.out.grown p4.grown (by intro h; injection h with h; omega), by rw [HVB.out]; exact p4.row, p4.below Bx.out Bx.out.size hg7⟩, rfl⟩
                      case measure => simp [intOf]; omega
                    · have hj4 : j = 4 := by omega
                      have R74 : Hid (RowAt wr g7 23 (wordsC (runS fst (8 * (k + 1))))) := by
                        rw [show 8 * (k + 1) = 8 * k + (4 + j) by omega]
                        exact R7
                      clear hj4 R7
                      go_wp2
                      go_roundw
                      case rel => exact ⟨k + 1, by omega, by go_num, R3.out, R4.out, R74.out, HB.out⟩
                      case measure => simp [intOf]; omega
            · have hk10 : k = 10 := by omega
              have L80 := Lib.hid (LR.out 80)
              have R70 : Hid (RowAt wr g7 23 (wordsC (runS fst 80))) := by
                rw [show 80 = 8 * k by omega]
                exact R7
              clear hk10 R7 LR
              generalize runS fst 80 = va at *
              go_wp2_with ((with_reducible refine wpList_alloc_row (o := ⟨some 14, _, _, _, _, _⟩) rfl 31 rfl (keyC zero64B) Tryd.zero64B ?_); intro g8 w8 n8)
              have e8 := n8.spot
              have hsz := HB.out.size
              have l3 := R3.out.lt
              have l4 := R4.out.lt
              have l7 := R70.out.lt
              have hg8 : w.heap.size ≤ g8 := by omega
              have h38 : g3 ≠ g8 := by omega
              have h48 : g4 ≠ g8 := by omega
              have h78 : g7 ≠ g8 := by omega
              have Q3 : Hid (RowAt w8 g3 31 (keyC zero64B)) := R3.out.kept n8.below
              have Q4 : Hid (RowAt w8 g4 23 (wordsC fst)) := R4.out.kept n8.below
              have Q7 : Hid (RowAt w8 g7 23 (wordsC va)) := R70.out.kept n8.below
              have Q8 : Hid (RowAt w8 g8 31 (keyC (fillB (fin.take 0) 64))) := n8.row
              have QB : Hid (Below w.heap.size w w8) := below_size HB.out n8.below
              clear n8 e8 hsz l3 l4 l7 R3 R4 R70 HB
              go_loopw [15] (fun i wr => ∃ k : Nat, k ≤ 64 ∧ i = .int .i64 k ∧ RowAt wr g3 31 (keyC zero64B) ∧ RowAt wr g4 23 (wordsC fst) ∧ RowAt wr g7 23 (wordsC va) ∧ RowAt wr g8 31 (keyC (fillB (fin.take k) 64)) ∧ Below w.heap.size w wr) (fun i _ => 64 - (intOf i).toNat)
              case atStart => exact ⟨0, by omega, rfl, Q3.out, Q4.out, Q7.out, Q8.out, QB.out⟩
              case round =>
                clear Q3 Q4 Q7 Q8 QB
                rename_i k4 _ _ _ _
                obtain ⟨k, hk, rfl, hr3, hr4, hr7, hr8, hb⟩ := hrel
                have R3 := Lib.hid hr3
                have R4 := Lib.hid hr4
                have R7 := Lib.hid hr7
                have R8 := Lib.hid hr8
                have HB := Lib.hid hb
                clear hr3 hr4 hr7 hr8 hb
                by_cases hlk : k < 64
                · obtain ⟨q, r, hqr, hq, hr⟩ : ∃ q r, k = 4 * q + r ∧ q < 16 ∧ r < 4 := ⟨k / 4, k % 4, by omega, by omega, by omega⟩
                  have hquo := quo4 k q r hqr hr
                  have hrem := rem4 k q r hqr hr
                  have c0 := wordsC_cell R7.out q (by rw [L80.out]; omega)
                  have c1 := wordsC_cell R4.out q (by rw [L0.out]; omega)
                  have hbyte : fin.getD k 0 = byteN (va.getD q 0 + fst.getD q 0).toNat r := by
                    rw [HF.out, hqr, bytesLow_getD _ q r hr (by simp [L80.out, L0.out]; omega), zipAdd_getD _ _ q (by rw [L80.out]; omega) (by rw [L0.out]; omega)]
                  have hcell := bytesC_cell R8.out k (by rw [fillB_length _ _ (by simp; omega)]; omega)
                  have hfz := R8.out.frozen k
                  have hput := R8.out.put k (.int .u8 ((fin.getD k 0).toNat : Int))
                  have htl : (fin.take k).length = k := by rw [List.length_take, HFL.out]; omega
                  have hst := fillB_set (fin.take k) 64 (fin.getD k 0) (by omega)
                  rw [htl, ← take_step fin k (by rw [HFL.out]; omega)] at hst
                  rw [bytesC_put, hst] at hput
                  have HP := Lib.hid hput
                  clear hput hst htl
                  generalize va.getD q 0 = x1 at c0 hbyte
                  generalize fst.getD q 0 = x2 at c1 hbyte
                  obtain ⟨xs, hxs⟩ : ∃ xs, x1 + x2 = xs := ⟨_, rfl⟩
                  have hsum : IntKind.u32.wrap ((x1.toNat : Int) + (x2.toNat : Int)) = (xs.toNat : Int) := by rw [add32, hxs]
                  rw [hxs] at hbyte
                  have hbi := byteN_int xs.toNat r
                  rw [← hbyte] at hbi
                  generalize fin.getD k 0 = bk at HP hbi
                  generalize (fillB (fin.take k) 64)[k]'(by rw [fillB_length _ _ (by simp; omega)]; omega) = old at hcell
                  have HQR := Lib.hid hqr
                  have hwq : IntKind.i64.wrap (q : Int) = (q : Int) := IntWalk.i64_in _ (by omega)
                  have hwr : IntKind.i64.wrap (r : Int) = (r : Int) := IntWalk.i64_in _ (by omega)
                  have hwr8 : IntKind.i64.wrap (8 * (r : Int)) = 8 * (r : Int) := IntWalk.i64_in _ (by omega)
                  have hqi : (q : Int) < 16 := by omega
                  have hri : (r : Int) < 4 := by omega
                  have hki : (k : Int) < 64 := by omega
                  have hxlt := xs.toNat_lt
                  have hblt := bk.toNat_lt
                  clear hbyte hxs hqr
                  go_wp2_with fail
                  go_still_tail 16, (by kernel_rfl)
                  change wpList _ _ _ _ _ wr.drew
                  have hcell2 : wr.drew.cell? ⟨g8, k, none⟩ = some (.int .u8 (old.toNat : Int)) := hcell
                  have hfz2 : wr.drew.frozen? ⟨g8, k, none⟩ = false := hfz
                  clear c0 c1 hfz hcell hsum
                  go_wp2
                  go_roundw
                  case rel => exact ⟨k + 1, by omega, by go_num, (R3.out.far (by show g3 ≠ g8; exact h38) _).drew, (R4.out.far (by show g4 ≠ g8; exact h48) _).drew, (R7.out.far (by show g7 ≠ g8; exact h78) _).drew, HP.out.drew, (HB.out.setCell hg8 _).drew⟩
                  case measure => simp [intOf]; omega
                · have hk64 : k = 64 := by omega
                  have R82 : Hid (RowAt wr g8 31 (keyC fin)) := by
                    have := R8.out
                    rw [hk64, List.take_of_length_le (by rw [HFL.out]; omega), fillB_all _ _ HFL.out] at this
                    exact this
                  clear hk64 R8 R4 R7
                  go_wp2_with (first
                    | (with_reducible refine wpList_load_row (o := ⟨some 104, _, _, _, _, _⟩) rfl 31 (.tmp 14) rfl g8 (by with_unfolding_all rfl) 31 (keyC fin) (0, 0) (.array 64 5) (by with_unfolding_all exact R82.out) Tryd.underlying31 rfl (Tryd.size64B fin HFL.out) ?_)
                    | ((with_reducible refine wpList_store_row (o := ⟨none, _, _, _, _, _⟩) rfl 31 (.tmp 6) (.tmp 104) rfl g3 31 _ (keyC fin) (by with_unfolding_all rfl) (by with_unfolding_all rfl) R3.out (keyC_sameN zero64B_length HFL.out) (Tryd.size64B fin HFL.out) (keyC_one fin) ?_); intro w9 p9))
                  refine bodyPost_ret (results_cell_row rfl _ _ g3 31 (keyC fin) (0, 0) (.array 64 5) rfl p9.row Tryd.underlying31 rfl (Tryd.size64B fin HFL.out)) rfl ⟨rfl, ?_⟩
                  exact p9.below HB.out HB.out.size hg3
end Go.Proofs.YtplaoofclgpeeaaDoor
