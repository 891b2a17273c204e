/-
  Contracts on keys: the document's answers. Conditions: as each theorem names them.
-/
import Derived.Test.YtemjlolpbbcclaaK
namespace Go.Proofs.Ytemjlolpbbcclaa
open Go.RowKit
set_option linter.unusedVariables false

theorem keyC_put (l : List UInt8) (i : Nat) (b : UInt8) : (keyC l).setIfInBounds i (.int .u8 (b.toNat : Int)) = keyC (l.set i b) := by
  unfold keyC
  rw [← cellsB_set]
  simp
theorem keyC_cell {w : World} {g : Nat} {t : TypeId} {l : List UInt8} (h : RowAt w g t (keyC l)) (i : Nat) (hi : i < l.length) : w.cell? ⟨g, i, none⟩ = some (.int .u8 (l[i].toNat : Int)) := by
  rw [h.cell i]
  have := cellsB_get l i hi
  simpa [keyC] using this
theorem Try.buildK (w : World) : (Instr.build 32 #[]).run Try.prog w = .ok (keyV zeroKey) w := by kernel_rfl

set_option maxHeartbeats 1000000 in
theorem refToKey_full (w : World) (v : Value) (l : List UInt8) (h : Bs w v l) (hl : l.length = 32) :
    Calls Try.prog 24 #[v] w (RetV w (.tuple #[keyV l, .int .i64 0])) := by
  obtain ⟨A, c, rfl, h1, h2, h3⟩ := h
  unfold maxLen at h2
  have HL := Lib.hid hl
  have hl1 : l.length ≤ 32 := by omega
  have hl2 : 32 ≤ l.length := by omega
  clear hl
  have hd : decide ((l.length : Int) < 32) = false := by simp; omega
  have hd2 : decide ((32 : Int) < (l.length : Int)) = false := by simp; omega
  have hbk := Try.buildK
  go_enter Try.func24, Try.ntmps24
  go_wp2_with (first | ((with_reducible refine wpList_alloc_row (o := ⟨some 2, _, _, _, _, _⟩) rfl 32 rfl (keyC zeroKey) Try.zeroK ?_); intro g1 w1 n1) | ((with_reducible refine wpList_alloc_row (o := ⟨some 4, _, _, _, _, _⟩) rfl 32 rfl (keyC zeroKey) Try.zeroK ?_); intro g2 w2 n2) | ((with_reducible refine wpList_store_row rfl 32 (.tmp 4) (.tmp 6) rfl g2 32 (keyC zeroKey) (keyC zeroKey) (by with_unfolding_all rfl) (by with_unfolding_all rfl) n2.row (keyC_same zeroKey_length zeroKey_length) (Try.sizeKey _ zeroKey_length) (keyC_one _) ?_); intro w3 p3))
  have hb3 : Below w1.heap.size w1 w3 := p3.below n2.below n2.below.size (by rw [n2.spot]; exact Nat.le_refl _)
  have hr3 : RowAt w3 g2 32 (keyC (partly l 0)) := by rw [partly_zero, HL.out]; exact p3.row
  have hgg : w1.heap.size ≤ g2 := Nat.le_of_eq n2.spot.symm
  have HW1 := Lib.hid n1
  clear n2 p3 hbk
  go_loopw [5] (fun i wr => ∃ k : Nat, k ≤ l.length ∧ i = .int .i64 k ∧ RowAt wr g2 32 (keyC (partly l k)) ∧ Below w1.heap.size w1 wr) (fun i _ => l.length - (intOf i).toNat)
  case atStart => exact ⟨0, Nat.zero_le _, rfl, hr3, hb3⟩
  case round =>
    obtain ⟨k, hk, rfl, hr, hb⟩ := hrel
    clear hr3 hb3
    by_cases hlt : k < l.length
    · obtain ⟨b0, o0, rfl, hc⟩ := h3 (by omega)
      have hc0 : wr.cell? ⟨b0, o0 + k, none⟩ = some (.int .u8 (l[k].toNat : Int)) := by
        have e1 := World.block_lt_of_cell? w _ (hc k hlt)
        have e2 : b0 < w1.heap.size := Nat.lt_of_lt_of_le e1 n1.below.size
        rw [hb.cell (p := ⟨b0, o0 + k, none⟩) e2, n1.below.cell (p := ⟨b0, o0 + k, none⟩) e1, hc k hlt]
      have hpl : (partly l k).length = l.length := partly_length l k hk
      have hcell := keyC_cell hr k (by omega)
      have hfz := hr.frozen k
      have hput := hr.put k (.int .u8 (l[k].toNat : Int))
      rw [keyC_put, partly_step l k hlt] at hput
      generalize ((partly l k)[k]'(by omega)).toNat = old at hcell
      have HP := Lib.hid hput
      have HB := Lib.hid hb
      clear hput hr hb hc h3 hpl
      go_wp2
      go_roundw
      case rel => exact ⟨k + 1, by omega, by go_num, HP.out, HB.out.setCell hgg _⟩
      case measure => simp [intOf]; omega
    · have hks : k = l.length := by omega
      rw [hks, partly_all] at hr
      have HR := Lib.hid hr
      have HB := Lib.hid hb
      clear hks hr hb
      go_wp2_with (first | (with_reducible refine wpList_load_row rfl 32 (.tmp 4) rfl g2 (by with_unfolding_all rfl) 32 (keyC l) (0, 0) (.array 32 5) (by with_unfolding_all exact HR.out) Try.underlying32 rfl (Try.sizeKey _ HL.out) ?_) | ((with_reducible refine wpList_store_row rfl 32 (.tmp 2) (.tmp 25) rfl g1 32 (keyC zeroKey) (keyC l) (by with_unfolding_all rfl) (by with_unfolding_all rfl) (n1.row.kept HB.out) (keyC_same zeroKey_length HL.out) (Try.sizeKey _ HL.out) (keyC_one _) ?_); intro w4 p4))
      refine bodyPost_ret (ret_row_tmp rfl _ g1 32 (keyC l) (.array 32 5) rfl p4.row Try.underlying32 rfl (Try.sizeKey _ HL.out)) rfl ⟨rfl, ?_⟩
      exact p4.below (below_size n1.below HB.out) (by have := n1.below.size; have := HB.out.size; omega) (by rw [n1.spot]; exact Nat.le_refl _)

set_option maxHeartbeats 1000000 in
theorem refToKey_short (w : World) (v : Value) (l : List UInt8) (h : Bs w v l) (hl : l.length < 32) :
    Calls Try.prog 24 #[v] w (RetV w (.tuple #[keyV zeroKey, .int .i64 3])) := by
  obtain ⟨A, c, rfl, h1, h2, h3⟩ := h
  unfold maxLen at h2
  clear h3
  have hd : decide ((l.length : Int) < 32) = true := by simp; omega
  have hbk := Try.buildK
  go_enter Try.func24, Try.ntmps24
  go_wp2_with (first | ((with_reducible refine wpList_alloc_row (o := ⟨some 2, _, _, _, _, _⟩) rfl 32 rfl (keyC zeroKey) Try.zeroK ?_); intro g1 w1 n1) | ((with_reducible refine wpList_alloc_row (o := ⟨some 4, _, _, _, _, _⟩) rfl 32 rfl (keyC zeroKey) Try.zeroK ?_); intro g2 w2 n2) | ((with_reducible refine wpList_store_row rfl 32 (.tmp 4) (.tmp 6) rfl g2 32 (keyC zeroKey) (keyC zeroKey) (by with_unfolding_all rfl) (by with_unfolding_all rfl) n2.row (keyC_same zeroKey_length zeroKey_length) (Try.sizeKey _ zeroKey_length) (keyC_one _) ?_); intro w3 p3; have hb3 : Below w1.heap.size w1 w3 := p3.below n2.below n2.below.size (by rw [n2.spot]; exact Nat.le_refl _)) | (with_reducible refine wpList_load_row rfl 32 (.tmp 4) rfl g2 (by with_unfolding_all rfl) 32 (keyC zeroKey) (0, 0) (.array 32 5) (by with_unfolding_all exact p3.row) Try.underlying32 rfl (Try.sizeKey _ zeroKey_length) ?_) | ((with_reducible refine wpList_store_row rfl 32 (.tmp 2) (.tmp 10) rfl g1 32 (keyC zeroKey) (keyC zeroKey) (by with_unfolding_all rfl) (by with_unfolding_all rfl) (n1.row.kept hb3) (keyC_same zeroKey_length zeroKey_length) (Try.sizeKey _ zeroKey_length) (keyC_one _) ?_); intro w4 p4))
  refine bodyPost_ret (ret_row_tmp rfl _ g1 32 (keyC zeroKey) (.array 32 5) rfl p4.row Try.underlying32 rfl (Try.sizeKey _ zeroKey_length)) rfl ⟨rfl, ?_⟩
  exact p4.below (below_size n1.below hb3) (by have := n1.below.size; have := hb3.size; omega) (by rw [n1.spot]; exact Nat.le_refl _)

set_option maxHeartbeats 1000000 in
theorem refToKey_long (w : World) (v : Value) (l : List UInt8) (h : Bs w v l) (hl : 32 < l.length) :
    Calls Try.prog 24 #[v] w (RetV w (.tuple #[keyV zeroKey, .int .i64 2])) := by
  obtain ⟨A, c, rfl, h1, h2, h3⟩ := h
  unfold maxLen at h2
  clear h3
  have hd : decide ((l.length : Int) < 32) = false := by simp; omega
  have hd2 : decide ((32 : Int) < (l.length : Int)) = true := by simp; omega
  have hbk := Try.buildK
  go_enter Try.func24, Try.ntmps24
  go_wp2_with (first | ((with_reducible refine wpList_alloc_row (o := ⟨some 2, _, _, _, _, _⟩) rfl 32 rfl (keyC zeroKey) Try.zeroK ?_); intro g1 w1 n1) | ((with_reducible refine wpList_alloc_row (o := ⟨some 4, _, _, _, _, _⟩) rfl 32 rfl (keyC zeroKey) Try.zeroK ?_); intro g2 w2 n2) | ((with_reducible refine wpList_store_row rfl 32 (.tmp 4) (.tmp 6) rfl g2 32 (keyC zeroKey) (keyC zeroKey) (by with_unfolding_all rfl) (by with_unfolding_all rfl) n2.row (keyC_same zeroKey_length zeroKey_length) (Try.sizeKey _ zeroKey_length) (keyC_one _) ?_); intro w3 p3; have hb3 : Below w1.heap.size w1 w3 := p3.below n2.below n2.below.size (by rw [n2.spot]; exact Nat.le_refl _)) | (with_reducible refine wpList_load_row rfl 32 (.tmp 4) rfl g2 (by with_unfolding_all rfl) 32 (keyC zeroKey) (0, 0) (.array 32 5) (by with_unfolding_all exact p3.row) Try.underlying32 rfl (Try.sizeKey _ zeroKey_length) ?_) | ((with_reducible refine wpList_store_row rfl 32 (.tmp 2) (.tmp 14) rfl g1 32 (keyC zeroKey) (keyC zeroKey) (by with_unfolding_all rfl) (by with_unfolding_all rfl) (n1.row.kept hb3) (keyC_same zeroKey_length zeroKey_length) (Try.sizeKey _ zeroKey_length) (keyC_one _) ?_); intro w4 p4))
  refine bodyPost_ret (ret_row_tmp rfl _ g1 32 (keyC zeroKey) (.array 32 5) rfl p4.row Try.underlying32 rfl (Try.sizeKey _ zeroKey_length)) rfl ⟨rfl, ?_⟩
  exact p4.below (below_size n1.below hb3) (by have := n1.below.size; have := hb3.size; omega) (by rw [n1.spot]; exact Nat.le_refl _)

theorem refToKey_any (w : World) (v : Value) (l : List UInt8) (h : Bs w v l) :
    Calls Try.prog 24 #[v] w (RetV w (.tuple #[keyV (if l.length = 32 then l else zeroKey), .int .i64 (if l.length = 32 then 0 else if l.length < 32 then 3 else 2)])) := by
  by_cases h1 : l.length = 32
  · rw [if_pos h1, if_pos h1]
    exact refToKey_full w v l h h1
  · rw [if_neg h1, if_neg h1]
    by_cases h2 : l.length < 32
    · rw [if_pos h2]
      exact refToKey_short w v l h h2
    · rw [if_neg h2]
      exact refToKey_long w v l h (by omega)

set_option maxHeartbeats 1000000 in
theorem refBytes_any (w : World) (l : List UInt8) (hl : l.length = 32) :
    Calls Try.prog 30 #[keyV l] w (RetBs w l) := by
  have HL := Lib.hid hl
  have hl1 : l.length ≤ 32 := by omega
  have hl2 : 32 ≤ l.length := by omega
  clear hl
  go_enter Try.func30, Try.ntmps30
  go_wp2_with ((with_reducible refine wpList_box_row (o := ⟨some 1, _, _, _, _, _⟩) rfl 32 (.tmp 0) rfl (keyC l) (by with_unfolding_all rfl) ?_); intro g1 w1 n1)
  go_loopw [3, 4] (fun v i wr => ∃ k : Nat, k ≤ l.length ∧ i = .int .i64 k ∧ OwnB wr w1.heap.size 5 v (l.take k) ∧ Below w1.heap.size w1 wr) (fun _ i _ => l.length - (intOf i).toNat)
  case atStart => exact ⟨0, Nat.zero_le _, rfl, OwnB.nil _ _ _, Below.refl _ _⟩
  case round =>
    obtain ⟨k, hk, rfl, hown, hb⟩ := hrel
    have HO := Lib.hid hown
    have HB := Lib.hid hb
    have hsz := hb.size
    clear hown hb
    by_cases hlt : k < l.length
    · have hcell := keyC_cell (n1.row.kept HB.out) k hlt
      have HT := Lib.hid (List.take_succ_eq_append_getElem hlt)
      go_wp2_with (at_builtin; refine wpList_appB _ rfl (.tmp 9) (.tmp 13) 23 rfl w1 5 Try.infoB Try.underlying23 _ _ _ [l[k]] rfl rfl (HO.out.alloc _) (Bs.lit1 _ _ _ _ rfl) (by simp; omega) (HB.out.alloc hsz _) ?_; intro v2 w2 hown2 hb2)
      go_roundw
      case rel => exact ⟨k + 1, by omega, by go_num, by rw [HT.out]; exact hown2, hb2⟩
      case measure => simp [intOf]; omega
    · have HO2 : Hid (OwnB wr w1.heap.size 5 u3 l) := by
        have := HO.out; rwa [List.take_of_length_le (by omega)] at this
      go_wp2
      go_ret
      exact ⟨_, rfl, HO2.out.bs, below_size n1.below HB.out⟩
end Go.Proofs.Ytemjlolpbbcclaa
