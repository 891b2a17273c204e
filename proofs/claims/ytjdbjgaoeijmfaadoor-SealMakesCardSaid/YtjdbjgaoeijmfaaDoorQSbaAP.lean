/-
  Texts that belong together, merged: StreamT, StreamU, StreamO, SealRefC. Conditions: as each theorem names them.
-/
import Derived.Test.YtjdbjgaoeijmfaaDoorQSbaAO
import Derived.Test.YtjdbjgaoeijmfaaDoorQSbaAL
import Derived.Test.YtjdbjgaoeijmfaaDoorQSbaAM
section
namespace Go.Proofs.YtjdbjgaoeijmfaaDoor
open Go.RowKit
set_option linter.unusedVariables false
set_option maxRecDepth 20000

theorem take_step (l : List UInt8) (k : Nat) (h : k < l.length) : l.take (k + 1) = l.take k ++ [l.getD k 0] := by
  rw [List.take_succ_eq_append_getElem h]
  simp [List.getD_eq_getElem?_getD, h]
theorem quo4 (k q r : Nat) (h : k = 4 * q + r) (hr : r < 4) : Int.tdiv (k : Int) 4 = (q : Int) := by
  rw [Int.tdiv_eq_ediv_of_nonneg (by omega)]; omega
theorem rem4 (k q r : Nat) (h : k = 4 * q + r) (hr : r < 4) : Int.tmod (k : Int) 4 = (r : Int) := by
  rw [Int.tmod_eq_emod_of_nonneg (by omega)]; omega

set_option maxHeartbeats 4000000 in
theorem refStreamBlock_any (w : World) (key nonce : List UInt8) (ctr : UInt32) (hk : key.length = 32) (hn : nonce.length = 12) :
    Calls Tryd.prog 31 #[keyV key, .int .u32 (ctr.toNat : Int), keyV nonce] w (RetV w (keyV (blockS key ctr nonce))) := by
  obtain ⟨fin, hfin⟩ : ∃ fin, fin = blockS key ctr nonce := ⟨_, rfl⟩
  have HFL : Hid (fin.length = 64) := by show _ = _; rw [hfin, blockS_length]
  rw [← hfin]
  obtain ⟨fst, hfst⟩ : ∃ fst, fst = firstS key ctr nonce := ⟨_, rfl⟩
  have L0 : Hid (fst.length = 16) := by show _ = _; rw [hfst, firstS_length]
  have HF : Hid (fin = bytesLow (List.zipWith (· + ·) (runS fst 80) fst)) := by show _ = _; rw [hfin, hfst]; rfl
  have HFS : Hid (fst = tailS key ctr nonce 3) := hfst
  have LR : Hid (∀ k, (runS fst k).length = 16) := fun k => by rw [runS_length, L0.out]
  have HK := Lib.hid hk
  have HN := Lib.hid hn
  have hctr := ctr.toNat_lt
  clear hfin hfst hk hn
  go_enter Tryd.func31, Tryd.ntmps31
  go_wp2_with (first
    | ((with_reducible refine wpList_box_row (o := ⟨some 3, _, _, _, _, _⟩) rfl 23 (.tmp 0) rfl (keyC key) (by with_unfolding_all rfl) ?_); intro g1 w1 n1)
    | ((with_reducible refine wpList_box_row (o := ⟨some 5, _, _, _, _, _⟩) rfl 67 (.tmp 2) rfl (keyC nonce) (by with_unfolding_all rfl) ?_); intro g2 w2 n2)
    | ((with_reducible refine wpList_alloc_row (o := ⟨some 6, _, _, _, _, _⟩) rfl 75 rfl (keyC zero64B) Tryd.zero64B ?_); intro g3 w3 n3)
    | ((with_reducible refine wpList_alloc_row (o := ⟨some 7, _, _, _, _, _⟩) rfl 89 rfl (wordsC zeroW) Tryd.zeroW16 ?_); intro g4 w4 n4)
    | ((with_reducible refine wpList_store_row (o := ⟨none, _, _, _, _, _⟩) rfl 89 (.tmp 7) (.tmp 16) rfl g4 89 _ (wordsC (fillW constsW 16)) (by with_unfolding_all rfl) (by with_unfolding_all exact litsV) n4.row (wordsC_same zeroW_length initW_length) (Tryd.sizeW16 _ initW_length) (wordsC_one _) ?_); intro w5 p5))
  have hg1 : w.heap.size ≤ g1 := Nat.le_of_eq n1.spot.symm
  have s1 := n1.row.lt
  have s2 := n2.row.lt
  have s3 := n3.row.lt
  have e2 := n2.spot
  have e3 := n3.spot
  have e4 := n4.spot
  have z1 := n1.size
  have z2 := n2.size
  have z3 := n3.size
  have hg3 : w.heap.size ≤ g3 := by omega
  have hg4 : w.heap.size ≤ g4 := by omega
  have h14 : g1 ≠ g4 := by omega
  have h24 : g2 ≠ g4 := by omega
  have h34 : g3 ≠ g4 := by omega
  have B4 : Below w.heap.size w w4 := below_size (below_size (below_size n1.below n2.below) n3.below) n4.below
  have hr1 : RowAt w5 g1 23 (keyC key) := (((n1.row.kept n2.below).kept n3.below).kept n4.below).grown p5.grown (by intro h; injection h with h; omega)
  have hr2 : RowAt w5 g2 67 (keyC nonce) := ((n2.row.kept n3.below).kept n4.below).grown p5.grown (by intro h; injection h with h; omega)
  have hr3 : RowAt w5 g3 75 (keyC zero64B) := (n3.row.kept n4.below).grown p5.grown (by intro h; injection h with h; omega)
  have hr4 : RowAt w5 g4 89 (wordsC (fillW (headS key 0) 16)) := by rw [headS_zero]; exact p5.row
  have B5 : Below w.heap.size w w5 := p5.below B4 B4.size hg4
  clear n1 n2 n3 n4 p5 s1 s2 s3 e2 e3 e4 z1 z2 z3 B4
  go_loopw [8] (fun i wr => ∃ k : Nat, k ≤ 8 ∧ i = .int .i64 k ∧ RowAt wr g1 23 (keyC key) ∧ RowAt wr g2 67 (keyC nonce) ∧ RowAt wr g3 75 (keyC zero64B) ∧ RowAt wr g4 89 (wordsC (fillW (headS key k) 16)) ∧ Below w.heap.size w wr) (fun i _ => 8 - (intOf i).toNat)
  case atStart => exact ⟨0, by omega, rfl, hr1, hr2, hr3, hr4, B5⟩
  case round =>
    clear hr1 hr2 hr3 hr4 B5
    obtain ⟨k, hk, rfl, hr1, hr2, hr3, hr4, hb⟩ := hrel
    have R1 := Lib.hid hr1
    have R2 := Lib.hid hr2
    have R3 := Lib.hid hr3
    have R4 := Lib.hid hr4
    have HB := Lib.hid hb
    clear hr1 hr2 hr3 hr4 hb
    by_cases hlt : k < 8
    · have hsl := fun x : World => run_sliceArr (P := Tryd.prog) x 23 5 32 Tryd.underlying23 Tryd.sizeB g1 0 (4 * k) (4 * k + 4) (4 * (k : Int)) (4 * (k : Int) + 4) (by omega) (by omega) (by omega) (by omega) (by omega)
      rw [Nat.zero_add, show 4 * k + 4 - 4 * k = 4 by omega] at hsl
      have HBS := Lib.hid (fun W (h : RowAt W g1 23 (keyC key)) => Bs.part h (4 * k) 4 (32 - 4 * k) (by rw [HK.out]; omega) (by omega) (by unfold maxLen; omega))
      have HL4 : Hid (((key.drop (4 * k)).take 4).length = 4) := by show _ = _; simp [HK.out]; omega
      have hw4 : IntKind.i64.wrap (4 * (k : Int)) = 4 * (k : Int) := IntWalk.i64_in _ (by omega)
      have hw5 : IntKind.i64.wrap (4 * (k : Int) + 4) = 4 * (k : Int) + 4 := IntWalk.i64_in _ (by omega)
      go_wp2_with fail
      refine (word_any _ _ _ (HBS.out _ R1.out) HL4.out).mono ?_
      rintro e w' ⟨rfl, n, rfl⟩
      rw [show UInt32.ofNat (ofLowB ((key.drop (4 * k)).take 4)) = wordLow key k from rfl]
      have hcell := wordsC_cell (R4.out.drewN n) (4 + k) (by rw [fillW_length _ _ (by rw [headS_length]; omega)]; omega)
      have hfz := (R4.out.drewN n).frozen (4 + k)
      have hput := (R4.out.drewN n).put (4 + k) (.int .u32 ((wordLow key k).toNat : Int))
      have hst := fillW_step (headS key k) 16 (wordLow key k) (by rw [headS_length]; omega)
      rw [headS_length, ← headS_succ] at hst
      rw [wordsC_put, hst] at hput
      have HP := Lib.hid hput
      generalize (fillW (headS key k) 16).getD (4 + k) 0 = old at hcell
      have hq : 4 + (k : Int) < 16 := by omega
      clear hput hst hsl HBS HL4 hw4 hw5
      go_wp2
      go_roundw
      case rel => exact ⟨k + 1, by omega, by go_num, (R1.out.drewN n).far (by show g1 ≠ g4; exact h14) _, (R2.out.drewN n).far (by show g2 ≠ g4; exact h24) _, (R3.out.drewN n).far (by show g3 ≠ g4; exact h34) _, HP.out, (below_drewN HB.out n).setCell hg4 _⟩
      case measure => simp [intOf]; omega
    · have hk8 : k = 8 := by omega
      have R42 : Hid (RowAt wr g4 89 (wordsC (fillW (headS key 8) 16))) := by rw [← hk8]; exact R4
      have hcell := wordsC_cell R42.out 12 (by rw [fillW_length _ _ (by rw [headS_length]; omega)]; omega)
      have hfz := R42.out.frozen 12
      have hput := R42.out.put 12 (.int .u32 (ctr.toNat : Int))
      have hst := fillW_step (headS key 8) 16 ctr (by rw [headS_length]; omega)
      rw [headS_length, ← tailS_zero key ctr nonce] at hst
      rw [wordsC_put, show (fillW (headS key 8) 16).set 12 ctr = _ from hst] at hput
      generalize (fillW (headS key 8) 16).getD 12 0 = old at hcell
      have HP := Lib.hid hput
      clear hput hst hk8 R4
      have B42 : Hid (Below w.heap.size w (wr.setCell ⟨g4, 12, none⟩ (.int .u32 (ctr.toNat : Int)))) := HB.out.setCell hg4 _
      have R22 : Hid (RowAt (wr.setCell ⟨g4, 12, none⟩ (.int .u32 (ctr.toNat : Int))) g2 67 (keyC nonce)) := R2.out.far (by show g2 ≠ g4; exact h24) _
      have R32 : Hid (RowAt (wr.setCell ⟨g4, 12, none⟩ (.int .u32 (ctr.toNat : Int))) g3 75 (keyC zero64B)) := R3.out.far (by show g3 ≠ g4; exact h34) _
      go_wp2
      clear hcell hfz R1 R2 R3 R42 HB
      go_loopw [9] (fun i wr => ∃ k : Nat, k ≤ 3 ∧ i = .int .i64 k ∧ RowAt wr g2 67 (keyC nonce) ∧ RowAt wr g3 75 (keyC zero64B) ∧ RowAt wr g4 89 (wordsC (fillW (tailS key ctr nonce k) 16)) ∧ Below w.heap.size w wr) (fun i _ => 3 - (intOf i).toNat)
      case atStart => exact ⟨0, by omega, rfl, R22.out, R32.out, HP.out, B42.out⟩
      case round =>
        clear R22 R32 HP B42
        rename_i k0 _ _ _ _
        obtain ⟨k, hk, rfl, hr2, hr3, hr4, hb⟩ := hrel
        have R2 := Lib.hid hr2
        have R3 := Lib.hid hr3
        have R4 := Lib.hid hr4
        have HB := Lib.hid hb
        clear hr2 hr3 hr4 hb
        by_cases hlt3 : k < 3
        · have hsl := fun x : World => run_sliceArr (P := Tryd.prog) x 67 5 12 Tryd.underlying67 Tryd.sizeB g2 0 (4 * k) (4 * k + 4) (4 * (k : Int)) (4 * (k : Int) + 4) (by omega) (by omega) (by omega) (by omega) (by omega)
          rw [Nat.zero_add, show 4 * k + 4 - 4 * k = 4 by omega] at hsl
          have HBS := Lib.hid (fun W (h : RowAt W g2 67 (keyC nonce)) => Bs.part h (4 * k) 4 (12 - 4 * k) (by rw [HN.out]; omega) (by omega) (by unfold maxLen; omega))
          have HL4 : Hid (((nonce.drop (4 * k)).take 4).length = 4) := by show _ = _; simp [HN.out]; omega
          have hw4 : IntKind.i64.wrap (4 * (k : Int)) = 4 * (k : Int) := IntWalk.i64_in _ (by omega)
          have hw5 : IntKind.i64.wrap (4 * (k : Int) + 4) = 4 * (k : Int) + 4 := IntWalk.i64_in _ (by omega)
          go_wp2_with fail
          refine (word_any _ _ _ (HBS.out _ R2.out) HL4.out).mono ?_
          rintro e w' ⟨rfl, n, rfl⟩
          rw [show UInt32.ofNat (ofLowB ((nonce.drop (4 * k)).take 4)) = wordLow nonce k from rfl]
          have hcell := wordsC_cell (R4.out.drewN n) (13 + k) (by rw [fillW_length _ _ (by rw [tailS_length]; omega)]; omega)
          have hfz := (R4.out.drewN n).frozen (13 + k)
          have hput := (R4.out.drewN n).put (13 + k) (.int .u32 ((wordLow nonce k).toNat : Int))
          have hst := fillW_step (tailS key ctr nonce k) 16 (wordLow nonce k) (by rw [tailS_length]; omega)
          rw [tailS_length, ← tailS_succ] at hst
          rw [wordsC_put, hst] at hput
          have HP := Lib.hid hput
          generalize (fillW (tailS key ctr nonce k) 16).getD (13 + k) 0 = old at hcell
          have hq : 13 + (k : Int) < 16 := by omega
          clear hput hst hsl HBS HL4 hw4 hw5
          go_wp2
          go_roundw
          case rel => exact ⟨k + 1, by omega, by go_num, (R2.out.drewN n).far (by show g2 ≠ g4; exact h24) _, (R3.out.drewN n).far (by show g3 ≠ g4; exact h34) _, HP.out, (below_drewN HB.out n).setCell hg4 _⟩
          case measure => simp [intOf]; omega
        · have hk3 : k = 3 := by omega
          have R43 : Hid (RowAt wr g4 89 (wordsC fst)) := by
            have := R4.out
            rw [hk3, fillW_all _ _ (tailS_length key ctr nonce 3), ← HFS.out] at this
            exact this
          clear hk3 R4 R2 HK HN HFS
          go_wp2_with (first
            | (with_reducible refine wpList_load_row (o := ⟨some 47, _, _, _, _, _⟩) rfl 89 (.tmp 7) rfl g4 (by with_unfolding_all rfl) 89 (wordsC fst) (0, 0) (.array 16 48) (by with_unfolding_all exact R43.out) Tryd.underlying89 rfl (Tryd.sizeW16 fst L0.out) ?_)
            | ((with_reducible refine wpList_alloc_row (o := ⟨some 10, _, _, _, _, _⟩) rfl 89 rfl (wordsC zeroW) Tryd.zeroW16 ?_); intro g7 w7 n7)
            | ((with_reducible refine wpList_store_row (o := ⟨none, _, _, _, _, _⟩) rfl 89 (.tmp 10) (.tmp 47) rfl g7 89 _ (wordsC fst) (by with_unfolding_all rfl) (by with_unfolding_all rfl) n7.row (wordsC_same zeroW_length L0.out) (Tryd.sizeW16 fst L0.out) (wordsC_one fst) ?_); intro w8 p8))
          have e7 := n7.spot
          have z7 := HB.out.size
          have l3 := R3.out.lt
          have l4 := R43.out.lt
          have hg7 : w.heap.size ≤ g7 := by omega
          have h37 : g3 ≠ g7 := by omega
          have h47 : g4 ≠ g7 := by omega
          have B7 : Below w.heap.size w w7 := below_size HB.out n7.below
          have B8 : Hid (Below w.heap.size w w8) := p8.below B7 B7.size hg7
          have R38 : Hid (RowAt w8 g3 75 (keyC zero64B)) := (R3.out.kept n7.below).grown p8.grown (by intro h; injection h with h; omega)
          have R48 : Hid (RowAt w8 g4 89 (wordsC fst)) := (R43.out.kept n7.below).grown p8.grown (by intro h; injection h with h; omega)
          have R78 : Hid (RowAt w8 g7 89 (wordsC (runS fst (8 * 0)))) := p8.row
          clear n7 p8 e7 z7 l3 l4 B7 R3 R43 HB
          go_loopw [11] (fun i wr => ∃ k : Nat, k ≤ 10 ∧ i = .int .i64 k ∧ RowAt wr g3 75 (keyC zero64B) ∧ RowAt wr g4 89 (wordsC fst) ∧ RowAt wr g7 89 (wordsC (runS fst (8 * k))) ∧ Below w.heap.size w wr) (fun i _ => 10 - (intOf i).toNat)
          case atStart => exact ⟨0, by omega, rfl, R38.out, R48.out, R78.out, B8.out⟩
          case round =>
            clear R38 R48 R78 B8
            rename_i k1 _ _ _ _
            obtain ⟨k, hk, rfl, hr3, hr4, hr7, hb⟩ := hrel
            have R3 := Lib.hid hr3
            have R4 := Lib.hid hr4
            have R7 := Lib.hid hr7
            have HB := Lib.hid hb
            clear hr3 hr4 hr7 hb
            by_cases hlt : k < 10
            · go_wp2
              go_loopw [12] (fun i wr => ∃ j : Nat, j ≤ 4 ∧ i = .int .i64 j ∧ RowAt wr g3 75 (keyC zero64B) ∧ RowAt wr g4 89 (wordsC fst) ∧ RowAt wr g7 89 (wordsC (runS fst (8 * k + j))) ∧ Below w.heap.size w wr) (fun i _ => 4 - (intOf i).toNat)
              case atStart => exact ⟨0, by omega, rfl, R3.out, R4.out, R7.out, HB.out⟩
              case round =>
                clear R3 R4 R7 HB
                rename_i k2 _ _ _ _
                obtain ⟨j, hj, rfl, hr3, hr4, hr7, hb⟩ := hrel
                have R3 := Lib.hid hr3
                have R4 := Lib.hid hr4
                have R7 := Lib.hid hr7
                have HB := Lib.hid hb
                clear hr3 hr4 hr7 hb
                by_cases hlj : j < 4
                · have HQA := fun (x : World) (a b c d : Int) (ha : a = (j : Int)) (hb : b = 4 + (j : Int)) (hc : c = 8 + (j : Int)) (hd : d = 12 + (j : Int)) => (quarter_row fst k j hlj a b c d ha hb hc hd) ▸ refQuarter_any x (runS fst (8 * k + j)) (LR.out _) a b c d
                  have HQB := Lib.hid HQA
                  have HLJ := Lib.hid (LR.out (8 * k + j))
                  have HLN := Lib.hid (LR.out (8 * k + (j + 1)))
                  clear HQA
                  generalize runS fst (8 * k + j) = va at *
                  generalize hvb : runS fst (8 * k + (j + 1)) = vb at *
                  have HVB := Lib.hid hvb
                  clear hvb
                  go_wp2_with (with_reducible refine wpList_load_row (o := ⟨some 56, _, _, _, _, _⟩) rfl 89 (.tmp 10) rfl g7 (by with_unfolding_all rfl) 89 (wordsC va) (0, 0) (.array 16 48) (by with_unfolding_all exact R7.out) Tryd.underlying89 rfl (Tryd.sizeW16 va HLJ.out) ?_)
                  refine (HQB.out _ _ _ _ _ (by go_num) (by go_num) (by go_num) (by go_num)).mono ?_
                  rintro e w3 ⟨rfl, b3⟩
                  have Rx3 : Hid (RowAt w3 g3 75 (keyC zero64B)) := R3.out.kept b3
                  have Rx4 : Hid (RowAt w3 g4 89 (wordsC fst)) := R4.out.kept b3
                  have Rx7 : Hid (RowAt w3 g7 89 (wordsC va)) := R7.out.kept b3
                  have Bx : Hid (Below w.heap.size w w3) := below_size HB.out b3
                  clear b3 HQB R3 R4 R7 HB
                  go_wp2_with ((with_reducible refine wpList_store_row (o := ⟨none, _, _, _, _, _⟩) rfl 89 (.tmp 10) (.tmp 64) rfl g7 89 _ (wordsC vb) (by with_unfolding_all rfl) (by with_unfolding_all rfl) Rx7.out (wordsC_same HLJ.out HLN.out) (Tryd.sizeW16 vb HLN.out) (wordsC_one vb) ?_); intro w4 p4)
                  go_roundw
                  case rel => simp only [show decide ((k : Int) < 10) = true from decide_eq_true (by omega)]; refine ⟨.int .i64 ((j : Int) + 1), _, _, _, _, _, _, _, _, _, _, _, _, _, ⟨j + 1, by omega, by go_num, Rx3.out.grown p4.grown (by intro h; injection h with h; omega), Rx4.out.grown p4.grown (by intro h; injection h with h; omega), by rw [HVB.out]; exact p4.row, p4.below Bx.out Bx.out.size hg7⟩, rfl⟩
                  case measure => simp [intOf]; omega
                · have hj4 : j = 4 := by omega
                  have R74 : Hid (RowAt wr g7 89 (wordsC (runS fst (8 * k + (4 + 0))))) := by
                    rw [show 8 * k + (4 + 0) = 8 * k + j by omega]
                    exact R7
                  clear hj4 R7
                  go_wp2
                  go_loopw [13] (fun i wr => ∃ j : Nat, j ≤ 4 ∧ i = .int .i64 j ∧ RowAt wr g3 75 (keyC zero64B) ∧ RowAt wr g4 89 (wordsC fst) ∧ RowAt wr g7 89 (wordsC (runS fst (8 * k + (4 + j)))) ∧ Below w.heap.size w wr) (fun i _ => 4 - (intOf i).toNat)
                  case atStart => exact ⟨0, by omega, rfl, R3.out, R4.out, R74.out, HB.out⟩
                  case round =>
                    clear R3 R4 R74 HB
                    rename_i k3 _ _ _ _
                    obtain ⟨j, hj, rfl, hr3, hr4, hr7, hb⟩ := hrel
                    have R3 := Lib.hid hr3
                    have R4 := Lib.hid hr4
                    have R7 := Lib.hid hr7
                    have HB := Lib.hid hb
                    clear hr3 hr4 hr7 hb
                    by_cases hlj : j < 4
                    · have HQA := fun (x : World) (a b c d : Int) (ha : a = (j : Int)) (hb : b = 4 + ((j + 1) % 4 : Nat)) (hc : c = 8 + ((j + 2) % 4 : Nat)) (hd : d = 12 + ((j + 3) % 4 : Nat)) => (quarter_diag fst k j hlj a b c d ha hb hc hd) ▸ refQuarter_any x (runS fst (8 * k + (4 + j))) (LR.out _) a b c d
                      have HQB := Lib.hid HQA
                      have HLJ := Lib.hid (LR.out (8 * k + (4 + j)))
                      have HLN := Lib.hid (LR.out (8 * k + (4 + (j + 1))))
                      clear HQA
                      generalize runS fst (8 * k + (4 + j)) = va at *
                      generalize hvb : runS fst (8 * k + (4 + (j + 1))) = vb at *
                      have HVB := Lib.hid hvb
                      clear hvb
                      have m1 : Int.tmod ((j : Int) + 1) 4 = ((j + 1) % 4 : Nat) := by rw [Int.tmod_eq_emod_of_nonneg (by omega)]; omega
                      have m2 : Int.tmod ((j : Int) + 2) 4 = ((j + 2) % 4 : Nat) := by rw [Int.tmod_eq_emod_of_nonneg (by omega)]; omega
                      have m3 : Int.tmod ((j : Int) + 3) 4 = ((j + 3) % 4 : Nat) := by rw [Int.tmod_eq_emod_of_nonneg (by omega)]; omega
                      have b1 : (j + 1) % 4 < 4 := Nat.mod_lt _ (by omega)
                      have b2 : (j + 2) % 4 < 4 := Nat.mod_lt _ (by omega)
                      have b3' : (j + 3) % 4 < 4 := Nat.mod_lt _ (by omega)
                      go_wp2_with (with_reducible refine wpList_load_row (o := ⟨some 69, _, _, _, _, _⟩) rfl 89 (.tmp 10) rfl g7 (by with_unfolding_all rfl) 89 (wordsC va) (0, 0) (.array 16 48) (by with_unfolding_all exact R7.out) Tryd.underlying89 rfl (Tryd.sizeW16 va HLJ.out) ?_)
                      refine (HQB.out _ _ _ _ _ (by go_num) (by go_num) (by go_num) (by go_num)).mono ?_
                      rintro e w3 ⟨rfl, b3⟩
                      have Rx3 : Hid (RowAt w3 g3 75 (keyC zero64B)) := R3.out.kept b3
                      have Rx4 : Hid (RowAt w3 g4 89 (wordsC fst)) := R4.out.kept b3
                      have Rx7 : Hid (RowAt w3 g7 89 (wordsC va)) := R7.out.kept b3
                      have Bx : Hid (Below w.heap.size w w3) := below_size HB.out b3
                      clear b3 HQB R3 R4 R7 HB
                      go_wp2_with ((with_reducible refine wpList_store_row (o := ⟨none, _, _, _, _, _⟩) rfl 89 (.tmp 10) (.tmp 83) rfl g7 89 _ (wordsC vb) (by with_unfolding_all rfl) (by with_unfolding_all rfl) Rx7.out (wordsC_same HLJ.out HLN.out) (Tryd.sizeW16 vb HLN.out) (wordsC_one vb) ?_); intro w4 p4)
                      go_roundw
                      case rel => simp only [show decide ((k : Int) < 10) = true from decide_eq_true (by omega)]; refine ⟨.int .i64 ((j : Int) + 1), _, _, _, _, _, _, _, _, _, _, _, _, _, _, _, _, _, _, _, ⟨j + 1, by omega, by go_num, Rx3.out.grown p4.grown (by intro h; injection h with h; omega), Rx4.out.grown p4.grown (by intro h; injection h with h; omega), by rw [HVB.out]; exact p4.row, p4.below Bx.out Bx.out.size hg7⟩, rfl⟩
                      case measure => simp [intOf]; omega
                    · have hj4 : j = 4 := by omega
                      have R74 : Hid (RowAt wr g7 89 (wordsC (runS fst (8 * (k + 1))))) := by
                        rw [show 8 * (k + 1) = 8 * k + (4 + j) by omega]
                        exact R7
                      clear hj4 R7
                      go_wp2
                      go_roundw
                      case rel => exact ⟨k + 1, by omega, by go_num, R3.out, R4.out, R74.out, HB.out⟩
                      case measure => simp [intOf]; omega
            · have hk10 : k = 10 := by omega
              have L80 := Lib.hid (LR.out 80)
              have R70 : Hid (RowAt wr g7 89 (wordsC (runS fst 80))) := by
                rw [show 80 = 8 * k by omega]
                exact R7
              clear hk10 R7 LR
              generalize runS fst 80 = va at *
              go_wp2_with ((with_reducible refine wpList_alloc_row (o := ⟨some 14, _, _, _, _, _⟩) rfl 75 rfl (keyC zero64B) Tryd.zero64B ?_); intro g8 w8 n8)
              have e8 := n8.spot
              have hsz := HB.out.size
              have l3 := R3.out.lt
              have l4 := R4.out.lt
              have l7 := R70.out.lt
              have hg8 : w.heap.size ≤ g8 := by omega
              have h38 : g3 ≠ g8 := by omega
              have h48 : g4 ≠ g8 := by omega
              have h78 : g7 ≠ g8 := by omega
              have Q3 : Hid (RowAt w8 g3 75 (keyC zero64B)) := R3.out.kept n8.below
              have Q4 : Hid (RowAt w8 g4 89 (wordsC fst)) := R4.out.kept n8.below
              have Q7 : Hid (RowAt w8 g7 89 (wordsC va)) := R70.out.kept n8.below
              have Q8 : Hid (RowAt w8 g8 75 (keyC (fillB (fin.take 0) 64))) := n8.row
              have QB : Hid (Below w.heap.size w w8) := below_size HB.out n8.below
              clear n8 e8 hsz l3 l4 l7 R3 R4 R70 HB
              go_loopw [15] (fun i wr => ∃ k : Nat, k ≤ 64 ∧ i = .int .i64 k ∧ RowAt wr g3 75 (keyC zero64B) ∧ RowAt wr g4 89 (wordsC fst) ∧ RowAt wr g7 89 (wordsC va) ∧ RowAt wr g8 75 (keyC (fillB (fin.take k) 64)) ∧ Below w.heap.size w wr) (fun i _ => 64 - (intOf i).toNat)
              case atStart => exact ⟨0, by omega, rfl, Q3.out, Q4.out, Q7.out, Q8.out, QB.out⟩
              case round =>
                clear Q3 Q4 Q7 Q8 QB
                rename_i k4 _ _ _ _
                obtain ⟨k, hk, rfl, hr3, hr4, hr7, hr8, hb⟩ := hrel
                have R3 := Lib.hid hr3
                have R4 := Lib.hid hr4
                have R7 := Lib.hid hr7
                have R8 := Lib.hid hr8
                have HB := Lib.hid hb
                clear hr3 hr4 hr7 hr8 hb
                by_cases hlk : k < 64
                · obtain ⟨q, r, hqr, hq, hr⟩ : ∃ q r, k = 4 * q + r ∧ q < 16 ∧ r < 4 := ⟨k / 4, k % 4, by omega, by omega, by omega⟩
                  have hquo := quo4 k q r hqr hr
                  have hrem := rem4 k q r hqr hr
                  have c0 := wordsC_cell R7.out q (by rw [L80.out]; omega)
                  have c1 := wordsC_cell R4.out q (by rw [L0.out]; omega)
                  have hbyte : fin.getD k 0 = byteN (va.getD q 0 + fst.getD q 0).toNat r := by
                    rw [HF.out, hqr, bytesLow_getD _ q r hr (by simp [L80.out, L0.out]; omega), zipAdd_getD _ _ q (by rw [L80.out]; omega) (by rw [L0.out]; omega)]
                  have hcell := bytesC_cell R8.out k (by rw [fillB_length _ _ (by simp; omega)]; omega)
                  have hfz := R8.out.frozen k
                  have hput := R8.out.put k (.int .u8 ((fin.getD k 0).toNat : Int))
                  have htl : (fin.take k).length = k := by rw [List.length_take, HFL.out]; omega
                  have hst := fillB_set (fin.take k) 64 (fin.getD k 0) (by omega)
                  rw [htl, ← take_step fin k (by rw [HFL.out]; omega)] at hst
                  rw [bytesC_put, hst] at hput
                  have HP := Lib.hid hput
                  clear hput hst htl
                  generalize va.getD q 0 = x1 at c0 hbyte
                  generalize fst.getD q 0 = x2 at c1 hbyte
                  obtain ⟨xs, hxs⟩ : ∃ xs, x1 + x2 = xs := ⟨_, rfl⟩
                  have hsum : IntKind.u32.wrap ((x1.toNat : Int) + (x2.toNat : Int)) = (xs.toNat : Int) := by rw [add32, hxs]
                  rw [hxs] at hbyte
                  have hbi := byteN_int xs.toNat r
                  rw [← hbyte] at hbi
                  generalize fin.getD k 0 = bk at HP hbi
                  generalize (fillB (fin.take k) 64)[k]'(by rw [fillB_length _ _ (by simp; omega)]; omega) = old at hcell
                  have HQR := Lib.hid hqr
                  have hwq : IntKind.i64.wrap (q : Int) = (q : Int) := IntWalk.i64_in _ (by omega)
                  have hwr : IntKind.i64.wrap (r : Int) = (r : Int) := IntWalk.i64_in _ (by omega)
                  have hwr8 : IntKind.i64.wrap (8 * (r : Int)) = 8 * (r : Int) := IntWalk.i64_in _ (by omega)
                  have hqi : (q : Int) < 16 := by omega
                  have hri : (r : Int) < 4 := by omega
                  have hki : (k : Int) < 64 := by omega
                  have hxlt := xs.toNat_lt
                  have hblt := bk.toNat_lt
                  clear hbyte hxs hqr
                  go_wp2_with fail
                  go_still_tail 16, (by kernel_rfl)
                  change wpList _ _ _ _ _ wr.drew
                  have hcell2 : wr.drew.cell? ⟨g8, k, none⟩ = some (.int .u8 (old.toNat : Int)) := hcell
                  have hfz2 : wr.drew.frozen? ⟨g8, k, none⟩ = false := hfz
                  clear c0 c1 hfz hcell hsum
                  go_wp2
                  go_roundw
                  case rel => exact ⟨k + 1, by omega, by go_num, (R3.out.far (by show g3 ≠ g8; exact h38) _).drew, (R4.out.far (by show g4 ≠ g8; exact h48) _).drew, (R7.out.far (by show g7 ≠ g8; exact h78) _).drew, HP.out.drew, (HB.out.setCell hg8 _).drew⟩
                  case measure => simp [intOf]; omega
                · have hk64 : k = 64 := by omega
                  have R82 : Hid (RowAt wr g8 75 (keyC fin)) := by
                    have := R8.out
                    rw [hk64, List.take_of_length_le (by rw [HFL.out]; omega), fillB_all _ _ HFL.out] at this
                    exact this
                  clear hk64 R8 R4 R7
                  go_wp2_with (first
                    | (with_reducible refine wpList_load_row (o := ⟨some 104, _, _, _, _, _⟩) rfl 75 (.tmp 14) rfl g8 (by with_unfolding_all rfl) 75 (keyC fin) (0, 0) (.array 64 5) (by with_unfolding_all exact R82.out) Tryd.underlying75 rfl (Tryd.size64B fin HFL.out) ?_)
                    | ((with_reducible refine wpList_store_row (o := ⟨none, _, _, _, _, _⟩) rfl 75 (.tmp 6) (.tmp 104) rfl g3 75 _ (keyC fin) (by with_unfolding_all rfl) (by with_unfolding_all rfl) R3.out (keyC_sameN zero64B_length HFL.out) (Tryd.size64B fin HFL.out) (keyC_one fin) ?_); intro w9 p9))
                  refine bodyPost_ret (results_cell_row rfl _ _ g3 75 (keyC fin) (0, 0) (.array 64 5) rfl p9.row Tryd.underlying75 rfl (Tryd.size64B fin HFL.out)) rfl ⟨rfl, ?_⟩
                  exact p9.below HB.out HB.out.size hg3
end Go.Proofs.YtjdbjgaoeijmfaaDoor
end
section
namespace Go.Proofs.YtjdbjgaoeijmfaaDoor
open Go.RowKit
set_option linter.unusedVariables false
set_option maxRecDepth 20000

theorem step_appG {P : Program} {w : World} {ops : Array Oper} {o : Oper} {a : Act} {K : Act → World → Prop} {Q : Exit → Act → World → Prop} {E : Prop} (hgd : o.guard = none) (s x : Operand) (t : TypeId)
    (ho : o.op = .call { callee := .builtin .append, args := #[s, x], argTypes := #[t, t] })
    (base : Nat) (e : TypeId) (hinfo : (P.info? e).map (fun i => (i.zero, i.size, i.bytes)) = some (some (.int .u8 0), 1, 1)) (ht : P.underlying t = some (.slice e))
    (v u : Value) (l m : List UInt8) (hs : a.eval s = v) (hx : a.eval x = u) (hown : OwnB w base e v l) (hu : Bs w u m) (hlen : l.length + m.length ≤ 140737488355328) (hb : base ≤ w.heap.size)
    (h : ∀ v' w', OwnB w' base e v' (l ++ m) → w.grownBy w' v.ownBlock → K (a.put o.dst v') w') :
    if Region.wanted o (yielded ops a.tmps) = true then Oper.wp P o a w K Q else E := by
  have hw : Region.wanted o (yielded ops a.tmps) = true := by simp [Region.wanted, hgd]
  rw [if_pos hw]
  exact wp_appG s x t ho base e hinfo ht v u l m hs hx hown hu hlen hb h
theorem take_stepB (z : List UInt8) (k : Nat) (h : k < z.length) : z.take (k + 1) = z.take k ++ [z.getD k 0] := by
  rw [List.take_succ_eq_append_getElem h]
  simp [List.getD_eq_getElem?_getD, h]
theorem xorB_getD (a b : List UInt8) (k : Nat) (ha : k < a.length) (hb : k < b.length) : (xorB a b).getD k 0 = a.getD k 0 ^^^ b.getD k 0 := by
  have h : k < (xorB a b).length := by rw [xorB_length]; omega
  rw [List.getD_eq_getElem?_getD, List.getElem?_eq_getElem h, xorB_get a b k h ha hb]
  simp [List.getD_eq_getElem?_getD, ha, hb]
theorem drop_getD (a : List UInt8) (p k : Nat) : (a.drop p).getD k 0 = a.getD (p + k) 0 := by
  simp [List.getD_eq_getElem?_getD]

set_option maxHeartbeats 1000000 in
theorem refMix_long (w : World) (key nonce text : List UInt8) (ctr : UInt32) (v : Value) (hb : Bs w v text) (hl : 4000 < text.length) :
    Calls Tryd.prog 21 #[keyV key, .int .u32 (ctr.toNat : Int), keyV nonce, v] w fun e w' => ∃ u, e = .returned (.tuple #[u, .int .i64 2]) ∧ Bs w' u [] ∧ Below w.heap.size w w' := by
  obtain ⟨A, c, rfl, h1, h2, h3⟩ := hb
  unfold maxLen at h2
  have hd : decide (4000 < (text.length : Int)) = true := by simp; omega
  clear h3
  go_enter Tryd.func21, Tryd.ntmps21
  go_wp2_with (first
    | ((with_reducible refine wpList_box_row (o := ⟨some 4, _, _, _, _, _⟩) rfl 23 (.tmp 0) rfl (keyC key) (by with_unfolding_all rfl) ?_); intro g1 w1 n1)
    | ((with_reducible refine wpList_box_row (o := ⟨some 6, _, _, _, _, _⟩) rfl 67 (.tmp 2) rfl (keyC nonce) (by with_unfolding_all rfl) ?_); intro g2 w2 n2))
  go_ret2
  exact ⟨_, rfl, Bs.nil _, below_size n1.below n2.below⟩

set_option maxHeartbeats 4000000 in
theorem refMix_ok (w : World) (key nonce text : List UInt8) (ctr : UInt32) (v : Value) (hb : Bs w v text) (hk : key.length = 32) (hn : nonce.length = 12) (hl : text.length ≤ 4000) :
    Calls Tryd.prog 21 #[keyV key, .int .u32 (ctr.toNat : Int), keyV nonce, v] w fun e w' => ∃ u, e = .returned (.tuple #[u, .int .i64 0]) ∧ Bs w' u (mixS key ctr nonce text) ∧ Below w.heap.size w w' := by
  have HV := Lib.hid hb
  obtain ⟨A, c, rfl, h1, h2, h3⟩ := hb
  unfold maxLen at h2
  have H3 := Lib.hid h3
  have hd : decide (4000 < (text.length : Int)) = false := by simp; omega
  have hctr := ctr.toNat_lt
  have HK := Lib.hid hk
  have HN := Lib.hid hn
  have HRB : Hid (∀ x c', Calls Tryd.prog 31 #[.agg (keyC key), .int .u32 (UInt32.toNat c' : Int), .agg (keyC nonce)] x (RetV x (.agg (keyC (blockS key c' nonce))))) := fun x c' => refStreamBlock_any x key nonce c' hk hn
  clear h3 hk hn
  go_enter Tryd.func21, Tryd.ntmps21
  go_wp2_with (first
    | ((with_reducible refine wpList_box_row (o := ⟨some 4, _, _, _, _, _⟩) rfl 23 (.tmp 0) rfl (keyC key) (by with_unfolding_all rfl) ?_); intro g1 w1 n1)
    | ((with_reducible refine wpList_box_row (o := ⟨some 6, _, _, _, _, _⟩) rfl 67 (.tmp 2) rfl (keyC nonce) (by with_unfolding_all rfl) ?_); intro g2 w2 n2))
  have B2 := below_size n1.below n2.below
  have R1 := n1.row.kept n2.below
  have R2 := n2.row
  clear n1 n2
  go_loopw [10, 11] (fun v i wr => ∃ k p : Nat, p = 64 * k ∧ p ≤ text.length + 63 ∧ i = .int .i64 p ∧ OwnB wr w.heap.size 5 v (xorB text (noiseS key ctr nonce k)) ∧ RowAt wr g1 23 (keyC key) ∧ RowAt wr g2 67 (keyC nonce) ∧ Below w.heap.size w wr) (fun _ i _ => 5000 - (intOf i).toNat)
  case atStart => exact ⟨0, 0, rfl, by omega, rfl, by simpa [noiseS, xorB] using OwnB.nil _ _ _, R1, R2, B2⟩
  case round =>
    clear R1 R2 B2
    obtain ⟨k, p, hpk, hp, rfl, hown, hr1, hr2, hb⟩ := hrel
    have HO := Lib.hid hown
    have R1 := Lib.hid hr1
    have R2 := Lib.hid hr2
    have HB := Lib.hid hb
    have HPK := Lib.hid hpk
    clear hown hr1 hr2 hb
    by_cases hlt : p < text.length
    · have hquo : Int.tdiv (p : Int) 64 = (k : Int) := by rw [Int.tdiv_eq_ediv_of_nonneg (by omega)]; omega
      have hwk : IntKind.i64.wrap (k : Int) = (k : Int) := IntWalk.i64_in _ (by omega)
      have hcv : IntKind.u32.wrap (k : Int) = (k : Int) := by rw [IntKind.wrap_u32]; omega
      have hadd : IntKind.u32.wrap ((ctr.toNat : Int) + (k : Int)) = ((ctr + UInt32.ofNat k).toNat : Int) := by
        rw [← add32, UInt32.toNat_ofNat_of_lt' (by simp only [UInt32.size]; omega)]
      have hstep := mixS_step key ctr nonce text k
      rw [← hpk] at hstep
      generalize hck : ctr + UInt32.ofNat k = ck at *
      have hbl := blockS_length key ck nonce
      generalize hbk : blockS key ck nonce = bk at *
      have hzl : (xorB (text.drop p) bk).length = min (text.length - p) 64 := by rw [xorB_length, List.length_drop, hbl]
      have hzg : ∀ j, j < (xorB (text.drop p) bk).length → (xorB (text.drop p) bk).getD j 0 = text.getD (p + j) 0 ^^^ bk.getD j 0 := fun j hj => by
        rw [hzl] at hj
        rw [xorB_getD _ _ j (by rw [List.length_drop]; omega) (by omega), drop_getD]
      have hol : (xorB text (noiseS key ctr nonce k)).length ≤ 4000 := by rw [xorB_length]; omega
      obtain ⟨z, hz⟩ : ∃ z, z = xorB (text.drop p) bk := ⟨_, rfl⟩
      rw [← hz] at hstep hzl hzg
      have HST := Lib.hid hstep
      have HZG := Lib.hid hzg
      have HBL := Lib.hid hbl
      have HCB := HRB.out
      have HCK : Hid (∀ x, Calls Tryd.prog 31 #[.agg (keyC key), .int .u32 (ck.toNat : Int), .agg (keyC nonce)] x (RetV x (.agg (keyC bk)))) := fun x => by rw [← hbk]; exact HRB.out x ck
      generalize xorB text (noiseS key ctr nonce k) = out at *
      clear hpk hstep hzg hz hck hbk hbl HCB
      go_wp2_with (first
        | (with_reducible refine wpList_load_row (o := ⟨some 23, _, _, _, _, _⟩) rfl 23 (.tmp 4) rfl g1 (by with_unfolding_all rfl) 23 (keyC key) (0, 0) (.array 32 5) (by with_unfolding_all exact R1.out) Tryd.underlying23 rfl (Tryd.sizeKey key HK.out) ?_)
        | (with_reducible refine wpList_load_row (o := ⟨some 29, _, _, _, _, _⟩) rfl 67 (.tmp 6) rfl g2 (by with_unfolding_all rfl) 67 (keyC nonce) (0, 0) (.array 12 5) (by with_unfolding_all exact R2.out) Tryd.underlying67 rfl (Tryd.sizeN nonce HN.out) ?_))
      refine (HCK.out _).mono ?_
      rintro e w5 ⟨rfl, b5⟩
      go_wp2_with (first
        | ((with_reducible refine wpList_alloc_row (o := ⟨some 12, _, _, _, _, _⟩) rfl 75 rfl (keyC zero64B) Tryd.zero64B ?_); intro g6 w6 n6)
        | ((with_reducible refine wpList_store_row (o := ⟨none, _, _, _, _, _⟩) rfl 75 (.tmp 12) (.tmp 30) rfl g6 75 _ (keyC bk) (by with_unfolding_all rfl) (by with_unfolding_all rfl) n6.row (keyC_sameN zero64B_length HBL.out) (Tryd.size64B bk HBL.out) (keyC_one bk) ?_); intro w7 p7))
      have b7 := below_size b5 (laid_put n6 p7).1
      have HO7 : Hid (OwnB w7 w.heap.size 5 u10 (out ++ z.take 0)) := by
        have := HO.out.below b7
        rwa [← List.append_nil out] at this
      have R17 := Lib.hid (R1.out.kept b7)
      have R27 := Lib.hid (R2.out.kept b7)
      have R67 := Lib.hid p7.row
      have B7 := Lib.hid (below_size HB.out b7)
      clear b5 n6 p7 b7 HO R1 R2 HB HCK hquo hwk hcv hadd
      go_loopw [10, 13] (fun v j wr => ∃ q : Nat, q ≤ z.length ∧ j = .int .i64 q ∧ OwnB wr w.heap.size 5 v (out ++ z.take q) ∧ RowAt wr g1 23 (keyC key) ∧ RowAt wr g2 67 (keyC nonce) ∧ RowAt wr g6 75 (keyC bk) ∧ Below w.heap.size w wr) (fun _ j _ => 100 - (intOf j).toNat)
      case atStart => exact ⟨0, by omega, rfl, HO7.out, R17.out, R27.out, R67.out, B7.out⟩
      case round =>
        clear HO7 R17 R27 R67 B7
        obtain ⟨q, hq, rfl, hown, hr1, hr2, hr6, hb⟩ := hrel
        have HO := Lib.hid hown
        have R1 := Lib.hid hr1
        have R2 := Lib.hid hr2
        have R6 := Lib.hid hr6
        have HB := Lib.hid hb
        have hsz := hb.size
        clear hown hr1 hr2 hr6 hb
        by_cases hqz : q < z.length
        · have q64 : q < 64 := by omega
          have pql : p + q < text.length := by omega
          obtain ⟨b0, o0, rfl, hca⟩ := H3.out (by omega)
          have hc0 : wr.cell? ⟨b0, o0 + (p + q), none⟩ = some (.int .u8 ((text[p + q]'(by omega)).toNat : Int)) := (HB.out.cell (p := ⟨b0, o0 + (p + q), none⟩) (World.block_lt_of_cell? w _ (hca (p + q) (by omega)))).trans (hca (p + q) (by omega))
          have hc1 := bytesC_cell R6.out q (by rw [HBL.out]; omega)
          have hzt := take_stepB z q hqz
          rw [HZG.out q hqz] at hzt
          have HZT := Lib.hid hzt
          have hto : (text.getD (p + q) 0) = text[p + q]'(by omega) := by simp [List.getD_eq_getElem?_getD, pql]
          have htb : (bk.getD q 0) = bk[q]'(by rw [HBL.out]; omega) := by simp [List.getD_eq_getElem?_getD, HBL.out, q64]
          rw [← hto] at hc0
          rw [← htb] at hc1
          have hlen : (out ++ z.take q).length ≤ 5000 := by rw [List.length_append, List.length_take]; omega
          have HLEN := Lib.hid hlen
          generalize text.getD (p + q) 0 = tb at *
          generalize bk.getD q 0 = kb at *
          have hxb := xor_byte tb kb
          have HXB := Lib.hid hxb
          have e1 : ∀ g t cs, RowAt wr g t cs → t ≠ 5 → some g ≠ u10.ownBlock := fun g t cs h hne => HO.out.other (show wr.heap[g]? = _ from h) hne
          have HE := Lib.hid e1
          clear hca hzt hto htb hlen e1 hxb
          have hpq : ((p : Int) + (q : Int)) < (text.length : Int) := by omega
          have hwpq : IntKind.i64.wrap ((p : Int) + (q : Int)) = (p : Int) + (q : Int) := IntWalk.i64_in _ (by omega)
          have hge : (0 : Int) ≤ (p : Int) + (q : Int) := by omega
          have htn : ((p : Int) + (q : Int)).toNat = p + q := by omega
          go_wp2
          go_region_law (refine step_appG rfl (.tmp 43) (.tmp 54) 24 rfl w.heap.size 5 Tryd.infoB Tryd.underlying24 _ _ (out ++ z.take q) [tb ^^^ kb] rfl rfl (HO.out.alloc _) (Bs.lit1 _ _ _ _ HXB.out) (by have := HLEN.out; rw [List.length_singleton]; omega) (Nat.le_trans hsz ((Below.refl _ wr).alloc (Nat.le_refl _) _).size) ?_; intro v2 w2 hown2 hg2; have r1 := Lib.hid ((R1.out.kept ((Below.refl _ wr).alloc (Nat.le_refl _) _).drew).grown hg2 (HE.out _ _ _ R1.out (by decide))); have r2 := Lib.hid ((R2.out.kept ((Below.refl _ wr).alloc (Nat.le_refl _) _).drew).grown hg2 (HE.out _ _ _ R2.out (by decide))); have r6 := Lib.hid ((R6.out.kept ((Below.refl _ wr).alloc (Nat.le_refl _) _).drew).grown hg2 (HE.out _ _ _ R6.out (by decide))); have bw := Lib.hid ((HB.out.alloc hsz _).drew.grown hg2 (Nat.le_trans hsz ((Below.refl _ wr).alloc (Nat.le_refl _) _).size) HO.out.rows); have ho2 := Lib.hid hown2; clear hown2 hg2)
          all_goals
            go_wp2
            go_roundw
            case rel => exact ⟨q + 1, by omega, by go_num, by rw [HZT.out, ← List.append_assoc]; exact ho2.out, r1.out, r2.out, r6.out, bw.out⟩
            case measure => simp [intOf]; omega
        · have hqz2 : q = z.length := by omega
          have HO2 : Hid (OwnB wr w.heap.size 5 u10 (xorB text (noiseS key ctr nonce (k + 1)))) := by
            have := HO.out
            rwa [hqz2, List.take_length, ← HST.out] at this
          clear HO
          by_cases q64 : q < 64
          · have hd1 : decide ((p : Int) + (q : Int) < (text.length : Int)) = false := by simp; omega
            go_wp2
            go_roundw
            case rel => exact ⟨k + 1, p + 64, by have := HPK.out; omega, by omega, by go_num, HO2.out, R1.out, R2.out, HB.out⟩
            case measure => simp [intOf]; omega
          · have hd1 : decide ((q : Int) < 64) = false := by simp; omega
            go_wp2
            go_roundw
            case rel => exact ⟨k + 1, p + 64, by have := HPK.out; omega, by omega, by go_num, HO2.out, R1.out, R2.out, HB.out⟩
            case measure => simp [intOf]; omega
    · have hfin := mixS_more key ctr nonce text k (by have := HPK.out; omega)
      have HO2 : Hid (OwnB wr w.heap.size 5 u10 (mixS key ctr nonce text)) := by
        have := HO.out
        rwa [hfin] at this
      clear HO hfin
      go_wp2
      go_ret2
      exact ⟨_, rfl, HO2.out.bs, HB.out⟩

theorem refMix_any (w : World) (key nonce text : List UInt8) (ctr : UInt32) (v : Value) (hb : Bs w v text) (hk : key.length = 32) (hn : nonce.length = 12) :
    Calls Tryd.prog 21 #[keyV key, .int .u32 (ctr.toNat : Int), keyV nonce, v] w fun e w' => ∃ u, e = .returned (.tuple #[u, .int .i64 (if text.length ≤ 4000 then 0 else 2)]) ∧ Bs w' u (if text.length ≤ 4000 then mixS key ctr nonce text else []) ∧ Below w.heap.size w w' := by
  by_cases h : text.length ≤ 4000
  · rw [if_pos h, if_pos h]
    exact refMix_ok w key nonce text ctr v hb hk hn h
  · rw [if_neg h, if_neg h]
    exact refMix_long w key nonce text ctr v hb (by omega)
end Go.Proofs.YtjdbjgaoeijmfaaDoor
end
section
namespace Go.Proofs.YtjdbjgaoeijmfaaDoor
open Go.RowKit
set_option linter.unusedVariables false
set_option maxRecDepth 20000

set_option maxHeartbeats 4000000 in
theorem refMix_own (w : World) (key nonce text : List UInt8) (ctr : UInt32) (v : Value) (hb : Bs w v text) (hk : key.length = 32) (hn : nonce.length = 12) (hl : text.length ≤ 4000) :
    Calls Tryd.prog 21 #[keyV key, .int .u32 (ctr.toNat : Int), keyV nonce, v] w fun e w' => ∃ u, e = .returned (.tuple #[u, .int .i64 0]) ∧ OwnB w' w.heap.size 5 u (mixS key ctr nonce text) ∧ Below w.heap.size w w' := by
  have HV := Lib.hid hb
  obtain ⟨A, c, rfl, h1, h2, h3⟩ := hb
  unfold maxLen at h2
  have H3 := Lib.hid h3
  have hd : decide (4000 < (text.length : Int)) = false := by simp; omega
  have hctr := ctr.toNat_lt
  have HK := Lib.hid hk
  have HN := Lib.hid hn
  have HRB : Hid (∀ x c', Calls Tryd.prog 31 #[.agg (keyC key), .int .u32 (UInt32.toNat c' : Int), .agg (keyC nonce)] x (RetV x (.agg (keyC (blockS key c' nonce))))) := fun x c' => refStreamBlock_any x key nonce c' hk hn
  clear h3 hk hn
  go_enter Tryd.func21, Tryd.ntmps21
  go_wp2_with (first
    | ((with_reducible refine wpList_box_row (o := ⟨some 4, _, _, _, _, _⟩) rfl 23 (.tmp 0) rfl (keyC key) (by with_unfolding_all rfl) ?_); intro g1 w1 n1)
    | ((with_reducible refine wpList_box_row (o := ⟨some 6, _, _, _, _, _⟩) rfl 67 (.tmp 2) rfl (keyC nonce) (by with_unfolding_all rfl) ?_); intro g2 w2 n2))
  have B2 := below_size n1.below n2.below
  have R1 := n1.row.kept n2.below
  have R2 := n2.row
  clear n1 n2
  go_loopw [10, 11] (fun v i wr => ∃ k p : Nat, p = 64 * k ∧ p ≤ text.length + 63 ∧ i = .int .i64 p ∧ OwnB wr w.heap.size 5 v (xorB text (noiseS key ctr nonce k)) ∧ RowAt wr g1 23 (keyC key) ∧ RowAt wr g2 67 (keyC nonce) ∧ Below w.heap.size w wr) (fun _ i _ => 5000 - (intOf i).toNat)
  case atStart => exact ⟨0, 0, rfl, by omega, rfl, by simpa [noiseS, xorB] using OwnB.nil _ _ _, R1, R2, B2⟩
  case round =>
    clear R1 R2 B2
    obtain ⟨k, p, hpk, hp, rfl, hown, hr1, hr2, hb⟩ := hrel
    have HO := Lib.hid hown
    have R1 := Lib.hid hr1
    have R2 := Lib.hid hr2
    have HB := Lib.hid hb
    have HPK := Lib.hid hpk
    clear hown hr1 hr2 hb
    by_cases hlt : p < text.length
    · have hquo : Int.tdiv (p : Int) 64 = (k : Int) := by rw [Int.tdiv_eq_ediv_of_nonneg (by omega)]; omega
      have hwk : IntKind.i64.wrap (k : Int) = (k : Int) := IntWalk.i64_in _ (by omega)
      have hcv : IntKind.u32.wrap (k : Int) = (k : Int) := by rw [IntKind.wrap_u32]; omega
      have hadd : IntKind.u32.wrap ((ctr.toNat : Int) + (k : Int)) = ((ctr + UInt32.ofNat k).toNat : Int) := by
        rw [← add32, UInt32.toNat_ofNat_of_lt' (by simp only [UInt32.size]; omega)]
      have hstep := mixS_step key ctr nonce text k
      rw [← hpk] at hstep
      generalize hck : ctr + UInt32.ofNat k = ck at *
      have hbl := blockS_length key ck nonce
      generalize hbk : blockS key ck nonce = bk at *
      have hzl : (xorB (text.drop p) bk).length = min (text.length - p) 64 := by rw [xorB_length, List.length_drop, hbl]
      have hzg : ∀ j, j < (xorB (text.drop p) bk).length → (xorB (text.drop p) bk).getD j 0 = text.getD (p + j) 0 ^^^ bk.getD j 0 := fun j hj => by
        rw [hzl] at hj
        rw [xorB_getD _ _ j (by rw [List.length_drop]; omega) (by omega), drop_getD]
      have hol : (xorB text (noiseS key ctr nonce k)).length ≤ 4000 := by rw [xorB_length]; omega
      obtain ⟨z, hz⟩ : ∃ z, z = xorB (text.drop p) bk := ⟨_, rfl⟩
      rw [← hz] at hstep hzl hzg
      have HST := Lib.hid hstep
      have HZG := Lib.hid hzg
      have HBL := Lib.hid hbl
      have HCB := HRB.out
      have HCK : Hid (∀ x, Calls Tryd.prog 31 #[.agg (keyC key), .int .u32 (ck.toNat : Int), .agg (keyC nonce)] x (RetV x (.agg (keyC bk)))) := fun x => by rw [← hbk]; exact HRB.out x ck
      generalize xorB text (noiseS key ctr nonce k) = out at *
      clear hpk hstep hzg hz hck hbk hbl HCB
      go_wp2_with (first
        | (with_reducible refine wpList_load_row (o := ⟨some 23, _, _, _, _, _⟩) rfl 23 (.tmp 4) rfl g1 (by with_unfolding_all rfl) 23 (keyC key) (0, 0) (.array 32 5) (by with_unfolding_all exact R1.out) Tryd.underlying23 rfl (Tryd.sizeKey key HK.out) ?_)
        | (with_reducible refine wpList_load_row (o := ⟨some 29, _, _, _, _, _⟩) rfl 67 (.tmp 6) rfl g2 (by with_unfolding_all rfl) 67 (keyC nonce) (0, 0) (.array 12 5) (by with_unfolding_all exact R2.out) Tryd.underlying67 rfl (Tryd.sizeN nonce HN.out) ?_))
      refine (HCK.out _).mono ?_
      rintro e w5 ⟨rfl, b5⟩
      go_wp2_with (first
        | ((with_reducible refine wpList_alloc_row (o := ⟨some 12, _, _, _, _, _⟩) rfl 75 rfl (keyC zero64B) Tryd.zero64B ?_); intro g6 w6 n6)
        | ((with_reducible refine wpList_store_row (o := ⟨none, _, _, _, _, _⟩) rfl 75 (.tmp 12) (.tmp 30) rfl g6 75 _ (keyC bk) (by with_unfolding_all rfl) (by with_unfolding_all rfl) n6.row (keyC_sameN zero64B_length HBL.out) (Tryd.size64B bk HBL.out) (keyC_one bk) ?_); intro w7 p7))
      have b7 := below_size b5 (laid_put n6 p7).1
      have HO7 : Hid (OwnB w7 w.heap.size 5 u10 (out ++ z.take 0)) := by
        have := HO.out.below b7
        rwa [← List.append_nil out] at this
      have R17 := Lib.hid (R1.out.kept b7)
      have R27 := Lib.hid (R2.out.kept b7)
      have R67 := Lib.hid p7.row
      have B7 := Lib.hid (below_size HB.out b7)
      clear b5 n6 p7 b7 HO R1 R2 HB HCK hquo hwk hcv hadd
      go_loopw [10, 13] (fun v j wr => ∃ q : Nat, q ≤ z.length ∧ j = .int .i64 q ∧ OwnB wr w.heap.size 5 v (out ++ z.take q) ∧ RowAt wr g1 23 (keyC key) ∧ RowAt wr g2 67 (keyC nonce) ∧ RowAt wr g6 75 (keyC bk) ∧ Below w.heap.size w wr) (fun _ j _ => 100 - (intOf j).toNat)
      case atStart => exact ⟨0, by omega, rfl, HO7.out, R17.out, R27.out, R67.out, B7.out⟩
      case round =>
        clear HO7 R17 R27 R67 B7
        obtain ⟨q, hq, rfl, hown, hr1, hr2, hr6, hb⟩ := hrel
        have HO := Lib.hid hown
        have R1 := Lib.hid hr1
        have R2 := Lib.hid hr2
        have R6 := Lib.hid hr6
        have HB := Lib.hid hb
        have hsz := hb.size
        clear hown hr1 hr2 hr6 hb
        by_cases hqz : q < z.length
        · have q64 : q < 64 := by omega
          have pql : p + q < text.length := by omega
          obtain ⟨b0, o0, rfl, hca⟩ := H3.out (by omega)
          have hc0 : wr.cell? ⟨b0, o0 + (p + q), none⟩ = some (.int .u8 ((text[p + q]'(by omega)).toNat : Int)) := (HB.out.cell (p := ⟨b0, o0 + (p + q), none⟩) (World.block_lt_of_cell? w _ (hca (p + q) (by omega)))).trans (hca (p + q) (by omega))
          have hc1 := bytesC_cell R6.out q (by rw [HBL.out]; omega)
          have hzt := take_stepB z q hqz
          rw [HZG.out q hqz] at hzt
          have HZT := Lib.hid hzt
          have hto : (text.getD (p + q) 0) = text[p + q]'(by omega) := by simp [List.getD_eq_getElem?_getD, pql]
          have htb : (bk.getD q 0) = bk[q]'(by rw [HBL.out]; omega) := by simp [List.getD_eq_getElem?_getD, HBL.out, q64]
          rw [← hto] at hc0
          rw [← htb] at hc1
          have hlen : (out ++ z.take q).length ≤ 5000 := by rw [List.length_append, List.length_take]; omega
          have HLEN := Lib.hid hlen
          generalize text.getD (p + q) 0 = tb at *
          generalize bk.getD q 0 = kb at *
          have hxb := xor_byte tb kb
          have HXB := Lib.hid hxb
          have e1 : ∀ g t cs, RowAt wr g t cs → t ≠ 5 → some g ≠ u10.ownBlock := fun g t cs h hne => HO.out.other (show wr.heap[g]? = _ from h) hne
          have HE := Lib.hid e1
          clear hca hzt hto htb hlen e1 hxb
          have hpq : ((p : Int) + (q : Int)) < (text.length : Int) := by omega
          have hwpq : IntKind.i64.wrap ((p : Int) + (q : Int)) = (p : Int) + (q : Int) := IntWalk.i64_in _ (by omega)
          have hge : (0 : Int) ≤ (p : Int) + (q : Int) := by omega
          have htn : ((p : Int) + (q : Int)).toNat = p + q := by omega
          go_wp2
          go_region_law (refine step_appG rfl (.tmp 43) (.tmp 54) 24 rfl w.heap.size 5 Tryd.infoB Tryd.underlying24 _ _ (out ++ z.take q) [tb ^^^ kb] rfl rfl (HO.out.alloc _) (Bs.lit1 _ _ _ _ HXB.out) (by have := HLEN.out; rw [List.length_singleton]; omega) (Nat.le_trans hsz ((Below.refl _ wr).alloc (Nat.le_refl _) _).size) ?_; intro v2 w2 hown2 hg2; have r1 := Lib.hid ((R1.out.kept ((Below.refl _ wr).alloc (Nat.le_refl _) _).drew).grown hg2 (HE.out _ _ _ R1.out (by decide))); have r2 := Lib.hid ((R2.out.kept ((Below.refl _ wr).alloc (Nat.le_refl _) _).drew).grown hg2 (HE.out _ _ _ R2.out (by decide))); have r6 := Lib.hid ((R6.out.kept ((Below.refl _ wr).alloc (Nat.le_refl _) _).drew).grown hg2 (HE.out _ _ _ R6.out (by decide))); have bw := Lib.hid ((HB.out.alloc hsz _).drew.grown hg2 (Nat.le_trans hsz ((Below.refl _ wr).alloc (Nat.le_refl _) _).size) HO.out.rows); have ho2 := Lib.hid hown2; clear hown2 hg2)
          all_goals
            go_wp2
            go_roundw
            case rel => exact ⟨q + 1, by omega, by go_num, by rw [HZT.out, ← List.append_assoc]; exact ho2.out, r1.out, r2.out, r6.out, bw.out⟩
            case measure => simp [intOf]; omega
        · have hqz2 : q = z.length := by omega
          have HO2 : Hid (OwnB wr w.heap.size 5 u10 (xorB text (noiseS key ctr nonce (k + 1)))) := by
            have := HO.out
            rwa [hqz2, List.take_length, ← HST.out] at this
          clear HO
          by_cases q64 : q < 64
          · have hd1 : decide ((p : Int) + (q : Int) < (text.length : Int)) = false := by simp; omega
            go_wp2
            go_roundw
            case rel => exact ⟨k + 1, p + 64, by have := HPK.out; omega, by omega, by go_num, HO2.out, R1.out, R2.out, HB.out⟩
            case measure => simp [intOf]; omega
          · have hd1 : decide ((q : Int) < 64) = false := by simp; omega
            go_wp2
            go_roundw
            case rel => exact ⟨k + 1, p + 64, by have := HPK.out; omega, by omega, by go_num, HO2.out, R1.out, R2.out, HB.out⟩
            case measure => simp [intOf]; omega
    · have hfin := mixS_more key ctr nonce text k (by have := HPK.out; omega)
      have HO2 : Hid (OwnB wr w.heap.size 5 u10 (mixS key ctr nonce text)) := by
        have := HO.out
        rwa [hfin] at this
      clear HO hfin
      go_wp2
      go_ret2
      exact ⟨_, rfl, HO2.out, HB.out⟩
end Go.Proofs.YtjdbjgaoeijmfaaDoor
end
section
namespace Go.Proofs.YtjdbjgaoeijmfaaDoor
open Go.RowKit
set_option linter.unusedVariables false
set_option maxRecDepth 20000

set_option maxHeartbeats 2000000 in
theorem refSeal_ok (w0 w : World) (g n : Nat) (hr : LogR w0 w g n w) (hn : n ≤ 900000) (key : List UInt8) (hk : key.length = 32) (va vt : Value) (aside text : List UInt8) (ha : Bs w va aside) (ht : Bs w vt text) (hal : aside.length ≤ 4000) (htl : text.length ≤ 4000) :
    Calls Tryd.prog 10 #[.pointer (some ⟨g, 0, none⟩), keyV key, va, vt] w fun e x => ∃ u n', n' ≤ n + 9 ∧ e = .returned (.tuple #[u, .int .i64 0]) ∧ Bs x u (sealB key aside text) ∧ LogR w0 w g n' x := by
  have HR := Lib.hid hr
  have HK := Lib.hid hk
  have HA := Lib.hid ha
  have HT := Lib.hid ht
  have hgl := hr.glt
  obtain ⟨AA, ac, rfl, _, _, _⟩ := ha
  obtain ⟨TA, tc, rfl, _, _, _⟩ := ht
  obtain ⟨kx, hkx⟩ : ∃ k, k = hideK key := ⟨_, rfl⟩
  obtain ⟨hid, hhid⟩ : ∃ h, h = hidB key text := ⟨_, rfl⟩
  obtain ⟨tg, htg⟩ : ∃ h, h = tagB key aside hid := ⟨_, rfl⟩
  have hres : sealB key aside text = hid ++ tg := by rw [htg, hhid, sealB]
  have LX : Hid (kx.length = 32) := by show _ = _; rw [hkx]; exact hideK_length key
  have LT : Hid (tg.length = 32) := by show _ = _; rw [htg, tagB, macB_length]
  have LH : Hid (hid.length ≤ 4000) := by show _ ≤ _; rw [hhid, hidB, mixS_length]; exact htl
  have HD : Hid (∀ x m, LogR w0 x g m x → m ≤ 1000000 → Calls Tryd.prog 20 #[.pointer (some ⟨g, 0, none⟩), .agg (keyC key), .string { data := #[104, 105, 100, 101] }, .slice none 0 0] x fun e w' => ∃ n', n' ≤ m + 3 ∧ e = .returned (.agg (keyC kx)) ∧ LogR w0 x g n' w') := fun x m h hm => by
    have h1 := refDerive_none w0 x g m { data := #[104, 105, 100, 101] } (by decide) key h hm HK.out (by decide)
    rw [hkx]
    exact h1
  have HMX : Hid (∀ x, Bs x (.slice TA text.length tc) text → Calls Tryd.prog 21 #[.agg (keyC kx), .int .u32 0, .agg #[.int .u8 0, .int .u8 0, .int .u8 0, .int .u8 0, .int .u8 0, .int .u8 0, .int .u8 0, .int .u8 0, .int .u8 0, .int .u8 0, .int .u8 0, .int .u8 0], .slice TA text.length tc] x fun e w' => ∃ u, e = .returned (.tuple #[u, .int .i64 0]) ∧ OwnB w' x.heap.size 5 u hid ∧ Below x.heap.size x w') := fun x h => by
    have h1 := refMix_own x kx nonce0 text 0 _ h LX.out nonce0_length htl
    unfold keyV at h1
    rw [← nonce0V, show ((0 : UInt32).toNat : Int) = 0 from rfl, show mixS kx 0 nonce0 text = hid by rw [hkx, hhid]; rfl] at h1
    exact h1
  have HTG : Hid (∀ x m vh, LogR w0 x g m x → m ≤ 950000 → Bs x (.slice AA aside.length ac) aside → Bs x vh hid → Calls Tryd.prog 13 #[.pointer (some ⟨g, 0, none⟩), .agg (keyC key), .slice AA aside.length ac, vh] x fun e y => ∃ n', n' ≤ m + 6 ∧ e = .returned (.agg (keyC tg)) ∧ LogR w0 x g n' y) := fun x m vh h hm h1 h2 => by
    rw [htg]
    exact refTag_any w0 x g m h hm key HK.out _ vh aside hid h1 h2 hal (by have := LH.out; omega)
  have HBY : Hid (∀ x, Calls Tryd.prog 16 #[.agg (keyC tg)] x (RetOwn x 5 tg)) := fun x => refBytes_own x tg LT.out
  have d1 : decide ((4000 : Int) < (aside.length : Int)) = false := by simp; omega
  have d2 : decide ((4000 : Int) < (text.length : Int)) = false := by simp; omega
  rw [hres]
  clear hkx hhid htg hres hr hk
  go_enter Tryd.func10, Tryd.ntmps10
  go_wp2_with (first
    | ((with_reducible refine wpList_box_row (o := ⟨some 5, _, _, _, _, _⟩) rfl 23 (.tmp 1) rfl (keyC key) (by with_unfolding_all rfl) ?_); intro g5 w1 n1)
    | (with_reducible refine wpList_load_row (o := ⟨some 23, _, _, _, _, _⟩) rfl 23 (.tmp 5) rfl g5 (by with_unfolding_all rfl) 23 (keyC key) (0, 0) (.array 32 5) (by with_unfolding_all exact n1.row) Tryd.underlying23 rfl (Tryd.sizeKey key HK.out) ?_))
  have R1 := Lib.hid (HR.out.kept n1.below)
  have K1 := Lib.hid n1.row
  have h5g : g5 ≠ g := by have := n1.spot; omega
  clear n1 HR
  refine (HD.out _ n (by exact R1.out.self) (by omega)).mono ?_
  intro e w3 h
  obtain ⟨n3, hn3, he, r3⟩ := h
  subst he
  have R3 := Lib.hid (R1.out.trans r3)
  have K3 := Lib.hid (r3.other K1.out h5g)
  clear r3 R1 K1 HD
  go_wp2_with (first
    | ((with_reducible refine wpList_alloc_row (o := ⟨some 10, _, _, _, _, _⟩) rfl 23 rfl (keyC zeroKey) Tryd.zeroK ?_); intro g10 w4 n4)
    | ((with_reducible refine wpList_store_row (o := ⟨none, _, _, _, _, _⟩) rfl 23 (.tmp 10) (.tmp 24) rfl g10 23 _ (keyC kx) (by with_unfolding_all rfl) (by with_unfolding_all rfl) n4.row (keyC_same zeroKey_length LX.out) (Tryd.sizeKey kx LX.out) (keyC_one kx) ?_); intro w5 p5; have b5 := (laid_put n4 p5).1; have R5 := Lib.hid (R3.out.kept b5); have K5 := Lib.hid (K3.out.kept b5); have X5 := Lib.hid p5.row; clear n4 p5 b5 R3 K3)
    | (with_reducible refine wpList_load_row (o := ⟨some 26, _, _, _, _, _⟩) rfl 23 (.tmp 10) rfl g10 (by with_unfolding_all rfl) 23 (keyC kx) (0, 0) (.array 32 5) (by with_unfolding_all exact X5.out) Tryd.underlying23 rfl (Tryd.sizeKey kx LX.out) ?_))
  refine (HMX.out _ (by exact R5.out.bs HT.out)).mono ?_
  intro e w6 h
  obtain ⟨u, he, o6, b6⟩ := h
  subst he
  have R6 := Lib.hid (R5.out.kept b6)
  have K6 := Lib.hid (K5.out.kept b6)
  have O6 := Lib.hid (o6.low R5.out.size)
  obtain ⟨UA, uc, rfl, _, _⟩ := o6.shape
  clear o6 b6 R5 K5 X5 HMX
  go_wp2_with (with_reducible refine wpList_load_row (o := ⟨some 33, _, _, _, _, _⟩) rfl 23 (.tmp 5) rfl g5 (by with_unfolding_all rfl) 23 (keyC key) (0, 0) (.array 32 5) (by with_unfolding_all exact K6.out) Tryd.underlying23 rfl (Tryd.sizeKey key HK.out) ?_)
  refine (HTG.out _ n3 _ (by exact R6.out.self) (by omega) (by exact R6.out.bs HA.out) (by exact O6.out.bs)).mono ?_
  intro e w7 h
  obtain ⟨n7, hn7, he, r7⟩ := h
  subst he
  have R7 := Lib.hid (R6.out.trans r7)
  have O7 := Lib.hid (r7.own O6.out)
  clear r7 R6 K6 O6 HTG
  go_wp2_with (first
    | ((with_reducible refine wpList_alloc_row (o := ⟨some 13, _, _, _, _, _⟩) rfl 23 rfl (keyC zeroKey) Tryd.zeroK ?_); intro g13 w8 n8)
    | ((with_reducible refine wpList_store_row (o := ⟨none, _, _, _, _, _⟩) rfl 23 (.tmp 13) (.tmp 36) rfl g13 23 _ (keyC tg) (by with_unfolding_all rfl) (by with_unfolding_all rfl) n8.row (keyC_same zeroKey_length LT.out) (Tryd.sizeKey tg LT.out) (keyC_one tg) ?_); intro w9 p9; have b9 := (laid_put n8 p9).1; have R9 := Lib.hid (R7.out.kept b9); have O9 := Lib.hid (O7.out.below b9); have T9 := Lib.hid p9.row; clear n8 p9 b9 R7 O7)
    | (with_reducible refine wpList_load_row (o := ⟨some 38, _, _, _, _, _⟩) rfl 23 (.tmp 13) rfl g13 (by with_unfolding_all rfl) 23 (keyC tg) (0, 0) (.array 32 5) (by with_unfolding_all exact T9.out) Tryd.underlying23 rfl (Tryd.sizeKey tg LT.out) ?_))
  refine (HBY.out _).mono ?_
  intro e wa h
  obtain ⟨va, he, oa, ba⟩ := h
  subst he
  have Ra := Lib.hid (R9.out.kept ba)
  have Oa := Lib.hid (O9.out.below ba)
  have Va := Lib.hid oa.bs
  have Aa : Hid (Apart (.slice UA hid.length uc) va) := fun k hk h2 => by
    have h3 := (World.ownsRow.lt O9.out k hk).2
    have h4 := oa.rows k h2
    omega
  clear oa ba R9 O9 T9 HBY
  go_wp2_with (at_builtin; refine wpList_appD rfl (.tmp 37) (.tmp 39) 24 rfl w.heap.size 5 Tryd.infoB Tryd.underlying24 _ _ hid tg rfl rfl Oa.out Va.out (by rw [LT.out]; have := LH.out; omega) Ra.out.size ?_; intro vb wb ob gb db; have Rb := Lib.hid (Ra.out.app Oa.out (Nat.le_refl _) gb); have Ub := Lib.hid ob.bs; clear ob gb db)
  go_ret2
  exact ⟨vb, n7, by omega, rfl, Ub.out, Rb.out⟩
end Go.Proofs.YtjdbjgaoeijmfaaDoor
end
