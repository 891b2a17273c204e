/-
  Contract of sha.spread: a block's sixteen words become 64. Conditions: as each theorem names them.
-/
import Derived.Test.YtdojaighchgghaaDoorShaA
import Derived.Test.YtdojaighchgghaaDoorD
import Derived.Test.YtdojaighchgghaaDoorWords
namespace Go.Proofs.YtdojaighchgghaaDoor
open Go.RowKit
set_option linter.unusedVariables false

/-- The first k words, and zeros behind them. -/
def partW (block : List UInt8) (k : Nat) : List UInt32 := wordsTo block k ++ List.replicate (64 - k) 0
theorem partW_length (block : List UInt8) (k : Nat) (h : k ≤ 64) : (partW block k).length = 64 := by simp [partW, wordsTo_length]; omega
theorem partW_step (block : List UInt8) (k : Nat) (h : k < 64) : (partW block k).set k (if k < 16 then wordOf block k else nextW (wordsTo block k) k) = partW block (k + 1) := by
  unfold partW
  rw [List.set_append_right _ _ (by rw [wordsTo_length]; exact Nat.le_refl _), wordsTo_length, Nat.sub_self, wordsTo, List.append_assoc]
  congr 1
  have e2 : 64 - k = (64 - (k + 1)) + 1 := by omega
  rw [e2, List.replicate_succ]
  simp
theorem partW_get (block : List UInt8) (k j : Nat) (h : j < k) : (partW block k).getD j 0 = (wordsTo block k).getD j 0 := by
  unfold partW
  simp only [List.getD_eq_getElem?_getD]
  rw [List.getElem?_append_left (by rw [wordsTo_length]; exact h)]

theorem Tryd.zero64 : (Tryd.prog.info? 66).map (·.zero) = some (some (.agg (wordsC (List.replicate 64 0)))) := by kernel_rfl
theorem Tryd.size64 : (Tryd.prog.info? 66).map (·.size) = some 64 := by kernel_rfl
theorem Tryd.size64l (l : List UInt32) (h : l.length = 64) : (Tryd.prog.info? 66).map (·.size) = some (wordsC l).size := by rw [wordsC_size, h]; exact Tryd.size64

set_option maxHeartbeats 1000000 in
set_option maxRecDepth 20000 in
theorem spread_any (w : World) (block : List UInt8) (hl : block.length = 64) :
    Calls Tryd.prog 39 #[keyV block] w (RetV w (.agg (wordsC (wordsTo block 64)))) := by
  obtain ⟨fin, hfin⟩ : ∃ fin, fin = wordsC (wordsTo block 64) := ⟨_, rfl⟩
  rw [← hfin]
  have HF := Lib.hid hfin
  have HL := Lib.hid hl
  clear hfin hl
  go_enter Tryd.func39, Tryd.ntmps39
  go_wp2_with (first | ((with_reducible refine wpList_box_row (o := ⟨some 1, _, _, _, _, _⟩) rfl 24 (.tmp 0) rfl (keyC block) (by with_unfolding_all rfl) ?_); intro g1 w1 n1) | ((with_reducible refine wpList_alloc_row (o := ⟨some 2, _, _, _, _, _⟩) rfl 66 rfl (wordsC (List.replicate 64 0)) Tryd.zero64 ?_); intro g2 w2 n2) | ((with_reducible refine wpList_alloc_row (o := ⟨some 3, _, _, _, _, _⟩) rfl 66 rfl (wordsC (List.replicate 64 0)) Tryd.zero64 ?_); intro g3 w3 n3))
  have hr1 : RowAt w3 g1 24 (keyC block) := (n1.row.kept n2.below).kept n3.below
  have hg3 : w2.heap.size ≤ g3 := Nat.le_of_eq n3.spot.symm
  have hr3 : RowAt w3 g3 66 (wordsC (partW block 0)) := n3.row
  have hlt1 : g1 < w2.heap.size := Nat.lt_of_lt_of_le n1.row.lt n2.below.size
  go_loopw [6] (fun i wr => ∃ k : Nat, k ≤ 16 ∧ i = .int .i64 k ∧ RowAt wr g3 66 (wordsC (partW block k)) ∧ RowAt wr g1 24 (keyC block) ∧ Below w2.heap.size w2 wr) (fun i _ => 16 - (intOf i).toNat)
  case atStart => exact ⟨0, Nat.zero_le _, rfl, hr3, hr1, n3.below⟩
  case round =>
    obtain ⟨k, hk, rfl, hr, hrb, hb⟩ := hrel
    clear hr3 hr1
    have HR := Lib.hid hr
    have HRB := Lib.hid hrb
    have HB := Lib.hid hb
    have N1 := Lib.hid n1
    have N2 := Lib.hid n2
    have N3 := Lib.hid n3
    clear hr hrb hb n1 n2 n3
    by_cases hlt : k < 16
    · have hsl := fun x : World => run_sliceArr (P := Tryd.prog) x 24 5 64 Tryd.underlying24 Tryd.sizeB g1 0 (4 * k) (4 * k + 4) (4 * (k : Int)) (4 * ((k : Int) + 1)) (by omega) (by omega) (by omega) (by omega) (by omega)
      rw [Nat.zero_add, show 4 * k + 4 - 4 * k = 4 by omega] at hsl
      have hcell := wordsC_cell HR.out k (by rw [partW_length _ _ (by omega)]; omega)
      have hfz := HR.out.frozen k
      have hv := ofHighB_lt ((block.drop (4 * k)).take 4)
      rw [show ((block.drop (4 * k)).take 4).length = 4 by simp [HL.out]; omega] at hv
      have hwo : IntKind.u32.wrap (ofHighB ((block.drop (4 * k)).take 4) : Int) = ((wordOf block k).toNat : Int) := by
        rw [IntKind.wrap_u32, wordOf, UInt32.toNat_ofNat']
        omega
      have hput := HR.out.put k (.int .u32 ((wordOf block k).toNat : Int))
      have hps := partW_step block k (by omega)
      rw [if_pos hlt] at hps
      rw [wordsC_put, hps] at hput
      have HP := Lib.hid hput
      have HW := Lib.hid hwo
      have ht8 : ((block.drop (4 * k)).take 4).take 8 = (block.drop (4 * k)).take 4 := List.take_of_length_le (by simp; omega)
      have HT := Lib.hid ht8
      clear hv hput hps hwo ht8
      go_wp2_with fail
      refine (OfHigh_any _ _ ((block.drop (4 * k)).take 4) (Bs.part HRB.out (4 * k) 4 (64 - 4 * k) (by rw [HL.out]; omega) (by omega) (by unfold maxLen; omega))).mono ?_
      rintro e w' ⟨rfl, rfl⟩
      rw [HT.out]
      have hwo := HW.out
      go_wp2
      go_roundw
      case rel => exact ⟨k + 1, by omega, by go_num, HP.out, HRB.out.far (by show g1 ≠ g3; omega) _, HB.out.setCell hg3 _⟩
      case measure => simp [intOf]; omega
    · have hk16 : k = 16 := by omega
      have HR16 : Hid (RowAt wr g3 66 (wordsC (partW block 16))) := by rw [← hk16]; exact HR
      clear hk16 HR
      go_wp2
      go_loopw [5] (fun i wr => ∃ k : Nat, 16 ≤ k ∧ k ≤ 64 ∧ i = .int .i64 k ∧ RowAt wr g3 66 (wordsC (partW block k)) ∧ Below w2.heap.size w2 wr) (fun i _ => 64 - (intOf i).toNat)
      case atStart => exact ⟨16, by omega, by omega, rfl, HR16.out, HB.out⟩
      case round =>
        clear HR16 HB HRB
        rename_i k0 _ _ _ _
        obtain ⟨k, hk16, hk64, rfl, hr, hb⟩ := hrel
        have HR := Lib.hid hr
        have HB := Lib.hid hb
        clear hr hb
        by_cases hlt : k < 64
        · obtain ⟨p1, hp1⟩ : ∃ p, p + 16 = k := ⟨k - 16, by omega⟩
          obtain ⟨p2, hp2⟩ : ∃ p, p + 15 = k := ⟨k - 15, by omega⟩
          obtain ⟨p3, hp3⟩ : ∃ p, p + 7 = k := ⟨k - 7, by omega⟩
          obtain ⟨p4, hp4⟩ : ∃ p, p + 2 = k := ⟨k - 2, by omega⟩
          have hs1 : IntKind.i64.wrap ((k : Int) - 16) = (p1 : Int) := by rw [IntWalk.i64_in _ (by omega)]; omega
          have hs2 : IntKind.i64.wrap ((k : Int) - 15) = (p2 : Int) := by rw [IntWalk.i64_in _ (by omega)]; omega
          have hs3 : IntKind.i64.wrap ((k : Int) - 7) = (p3 : Int) := by rw [IntWalk.i64_in _ (by omega)]; omega
          have hs4 : IntKind.i64.wrap ((k : Int) - 2) = (p4 : Int) := by rw [IntWalk.i64_in _ (by omega)]; omega
          have hln := partW_length block k (by omega)
          have hc1 := wordsC_cell HR.out p1 (by omega)
          have hc2 := wordsC_cell HR.out p2 (by omega)
          have hc3 := wordsC_cell HR.out p3 (by omega)
          have hc4 := wordsC_cell HR.out p4 (by omega)
          have hcell := wordsC_cell HR.out k (by omega)
          have hfz := HR.out.frozen k
          rw [partW_get _ _ _ (by omega)] at hc1 hc2 hc3 hc4
          have hps := partW_step block k hlt
          rw [if_neg (by omega), nextW, show k - 16 = p1 by omega, show k - 15 = p2 by omega, show k - 7 = p3 by omega, show k - 2 = p4 by omega] at hps
          generalize (wordsTo block k).getD p1 0 = x1 at hc1 hps
          generalize (wordsTo block k).getD p2 0 = x2 at hc2 hps
          generalize (wordsTo block k).getD p3 0 = x3 at hc3 hps
          generalize (wordsTo block k).getD p4 0 = x4 at hc4 hps
          generalize (partW block k).getD k 0 = x5 at hcell
          obtain ⟨xs, hxs⟩ : ∃ xs, xs = x1 + smallS x2 7 18 3 + x3 + smallS x4 17 19 10 := ⟨_, rfl⟩
          have HXS := Lib.hid hxs
          have hput := HR.out.put k (.int .u32 (xs.toNat : Int))
          rw [wordsC_put, hxs, hps, ← hxs] at hput
          clear hxs
          have HP := Lib.hid hput
          clear hln hps hput
          have hq1 : (p1 : Int) < 64 := by omega
          have hq2 : (p2 : Int) < 64 := by omega
          have hq3 : (p3 : Int) < 64 := by omega
          have hq4 : (p4 : Int) < 64 := by omega
          have hq5 : (k : Int) < 64 := by omega
          go_wp2_with fail
          go_still_tail 23, (by kernel_rfl)
          still_call ((moved_any _ x2 7 18 3 (by omega) (by omega) (by omega)).mono fun _ _ h => ⟨h.1, h.2.symm⟩)
          repeat still_step
          still_call ((moved_any _ x4 17 19 10 (by omega) (by omega) (by omega)).mono fun _ _ h => ⟨h.1, h.2.symm⟩)
          repeat still_step
          refine wpStill_nil ?_
          simp only [add32]
          rw [← HXS.out]
          change wpList _ _ _ _ _ wr.drew
          go_wp2
          go_roundw
          case rel => exact ⟨k + 1, by omega, by omega, by go_num, HP.out.drew, (HB.out.setCell hg3 _).drew⟩
          case measure => simp [intOf]; omega
        · have hk2 : k = 64 := by omega
          have HR2 : Hid (RowAt wr g3 66 fin) := by
            have := HR.out
            unfold partW at this
            rw [hk2] at this
            rw [HF.out]
            show RowAt _ _ _ _
            simpa using this
          have hsz : (wordsC (List.replicate 64 0)).size = fin.size := by rw [HF.out, wordsC_size, wordsC_size, wordsTo_length, List.length_replicate]
          have hsi : (Tryd.prog.info? 66).map (·.size) = some fin.size := by rw [HF.out, wordsC_size, wordsTo_length]; exact Tryd.size64
          have hone : ∀ u ∈ fin.toList, u.oneCell' = true := by rw [HF.out]; exact wordsC_one _
          have HS1 := Lib.hid hsz
          have HS2 := Lib.hid hsi
          have HS3 := Lib.hid hone
          have HG2 : Hid (RowAt wr g2 66 (wordsC (List.replicate 64 0))) := N2.out.row.below HB.out N2.out.row.lt
          clear hk2 hsz hsi hone
          go_wp2_with (first | (with_reducible refine wpList_load_row rfl 66 (.tmp 3) rfl g3 (by with_unfolding_all rfl) 66 fin (0, 0) (.array 64 22) (by with_unfolding_all exact HR2.out) Tryd.underlying66 rfl HS2.out ?_) | ((with_reducible refine wpList_store_row rfl 66 (.tmp 2) (.tmp 47) rfl g2 66 _ fin (by with_unfolding_all rfl) (by with_unfolding_all rfl) HG2.out HS1.out HS2.out HS3.out ?_); intro w4 p4))
          refine bodyPost_ret (results_cell_row rfl _ _ g2 66 fin (0, 0) (.array 64 22) rfl p4.row Tryd.underlying66 rfl HS2.out) rfl ⟨rfl, ?_⟩
          exact p4.below (below_size (below_size N1.out.below N2.out.below) HB.out) (by have := N1.out.below.size; have := N2.out.below.size; have := HB.out.size; omega) (by have := N2.out.spot; have := N1.out.below.size; omega)
end Go.Proofs.YtdojaighchgghaaDoor
