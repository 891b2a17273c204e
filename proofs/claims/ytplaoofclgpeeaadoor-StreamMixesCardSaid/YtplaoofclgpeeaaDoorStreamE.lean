/-
  Contract of cablegramlaw04.awake: the chapter's examples hold. Conditions: the table of quarters holds what the program's text lays.
-/
import Derived.Test.YtplaoofclgpeeaaDoorStreamD
namespace Go.Proofs.YtplaoofclgpeeaaDoor
open Go.RowKit
set_option linter.unusedVariables false
set_option maxRecDepth 20000

theorem Mix_any (w : World) (hq : Quar w) (key nonce text : List UInt8) (ctr : UInt32) (v : Value) (hb : Bs w v text) (hk : key.length = 32) (hn : nonce.length = 12) :
    Calls Tryd.prog 14 #[keyV key, .int .u32 (ctr.toNat : Int), keyV nonce, v] w fun e w' => ∃ u, e = .returned (.tuple #[u, .int .i64 (if text.length ≤ 4000 then 0 else 2)]) ∧ Bs w' u (if text.length ≤ 4000 then mixS key ctr nonce text else []) ∧ Below w.heap.size w w' := by
  by_cases h : text.length ≤ 4000
  · rw [if_pos h, if_pos h]
    exact Mix_ok w hq key nonce text ctr v hb hk hn h
  · rw [if_neg h, if_neg h]
    exact Mix_long w key nonce text ctr v hb (by omega)

def exIn : List UInt32 := [0x11111111, 0x01020304, 0x9b8d6f43, 0x01234567, 0, 0, 0, 0, 0, 0, 0, 0, 0, 0, 0, 0]
def exOut : List UInt32 := quarterW exIn (low4 0) (low4 1) (low4 2) (low4 3)
theorem exIn_length : exIn.length = 16 := rfl
theorem exOut_length : exOut.length = 16 := by rw [exOut, quarterW_length, exIn_length]
theorem exOut_at : exOut.getD 0 0 = 3928658676 ∧ exOut.getD 1 0 = 3407673550 ∧ exOut.getD 2 0 = 1166100270 ∧ exOut.getD 3 0 = 1484899515 := by decide +kernel
def exKey (k : Nat) : List UInt8 := (List.range k).map UInt8.ofNat
def exNonce : List UInt8 := [0, 0, 0, 9, 0, 0, 0, 74, 0, 0, 0, 0]
theorem exKey_length (k : Nat) : (exKey k).length = k := by simp [exKey]
theorem exKey_succ (k : Nat) : exKey (k + 1) = exKey k ++ [UInt8.ofNat k] := by simp [exKey, List.range_succ]
theorem exNonce_length : exNonce.length = 12 := rfl
def exBlock : List UInt8 := blockS (exKey 32) 1 exNonce
theorem exBlock_length : exBlock.length = 64 := blockS_length _ _ _
theorem exBlock_at : exBlock.getD 0 0 = 16 ∧ exBlock.getD 1 0 = 241 ∧ exBlock.getD 2 0 = 231 ∧ exBlock.getD 3 0 = 228 ∧ exBlock.getD 15 0 = 196 := by decide +kernel
theorem exIn_lit : (#[.int .u32 286331153, .int .u32 16909060, .int .u32 2609737539, .int .u32 19088743, .int .u32 0, .int .u32 0, .int .u32 0, .int .u32 0, .int .u32 0, .int .u32 0, .int .u32 0, .int .u32 0, .int .u32 0, .int .u32 0, .int .u32 0, .int .u32 0] : Array Value) = wordsC exIn := by kernel_rfl
theorem exNonce_lit : (#[.int .u8 0, .int .u8 0, .int .u8 0, .int .u8 9, .int .u8 0, .int .u8 0, .int .u8 0, .int .u8 74, .int .u8 0, .int .u8 0, .int .u8 0, .int .u8 0] : Array Value) = keyC exNonce := by kernel_rfl
theorem zeroKey_lit : Value.agg #[.int .u8 0, .int .u8 0, .int .u8 0, .int .u8 0, .int .u8 0, .int .u8 0, .int .u8 0, .int .u8 0, .int .u8 0, .int .u8 0, .int .u8 0, .int .u8 0, .int .u8 0, .int .u8 0, .int .u8 0, .int .u8 0, .int .u8 0, .int .u8 0, .int .u8 0, .int .u8 0, .int .u8 0, .int .u8 0, .int .u8 0, .int .u8 0, .int .u8 0, .int .u8 0, .int .u8 0, .int .u8 0, .int .u8 0, .int .u8 0, .int .u8 0, .int .u8 0] = .agg (keyC zeroKey) := by kernel_rfl
theorem Quarter_ex (w : World) : Calls Tryd.prog 10 #[.agg #[.int .u32 286331153, .int .u32 16909060, .int .u32 2609737539, .int .u32 19088743, .int .u32 0, .int .u32 0, .int .u32 0, .int .u32 0, .int .u32 0, .int .u32 0, .int .u32 0, .int .u32 0, .int .u32 0, .int .u32 0, .int .u32 0, .int .u32 0], .int .i64 0, .int .i64 1, .int .i64 2, .int .i64 3] w (RetV w (.agg (wordsC exOut))) := by
  rw [exIn_lit]
  exact Quarter_any w exIn exIn_length 0 1 2 3
theorem Block_ex (w : World) (hq : Quar w) : Calls Tryd.prog 12 #[.agg (keyC (exKey 32)), .int .u32 1, .agg #[.int .u8 0, .int .u8 0, .int .u8 0, .int .u8 9, .int .u8 0, .int .u8 0, .int .u8 0, .int .u8 74, .int .u8 0, .int .u8 0, .int .u8 0, .int .u8 0]] w (RetV w (keyV exBlock)) := by
  rw [exNonce_lit]
  exact Block_any w hq (exKey 32) exNonce 1 (exKey_length 32) exNonce_length
theorem bytesC_at {w : World} {g : Nat} {t : TypeId} {l : List UInt8} (h : RowAt w g t (keyC l)) (j : Nat) (hj : j < l.length) : w.cell? ⟨g, j, none⟩ = some (.int .u8 ((l.getD j 0).toNat : Int)) := by
  rw [bytesC_cell h j hj]
  simp [hj]

theorem exOut_cells {w : World} {g : Nat} {t : TypeId} (h : RowAt w g t (wordsC exOut)) : w.cell? ⟨g, 0, none⟩ = some (.int .u32 3928658676) ∧ w.cell? ⟨g, 1, none⟩ = some (.int .u32 3407673550) ∧ w.cell? ⟨g, 2, none⟩ = some (.int .u32 1166100270) ∧ w.cell? ⟨g, 3, none⟩ = some (.int .u32 1484899515) := by
  have c0 := wordsC_cell h 0 (by rw [exOut_length]; omega)
  have c1 := wordsC_cell h 1 (by rw [exOut_length]; omega)
  have c2 := wordsC_cell h 2 (by rw [exOut_length]; omega)
  have c3 := wordsC_cell h 3 (by rw [exOut_length]; omega)
  rw [exOut_at.1] at c0
  rw [exOut_at.2.1] at c1
  rw [exOut_at.2.2.1] at c2
  rw [exOut_at.2.2.2] at c3
  exact ⟨c0, c1, c2, c3⟩
theorem exBlock_cells {w : World} {g : Nat} {t : TypeId} (h : RowAt w g t (keyC exBlock)) : w.cell? ⟨g, 0, none⟩ = some (.int .u8 16) ∧ w.cell? ⟨g, 1, none⟩ = some (.int .u8 241) ∧ w.cell? ⟨g, 2, none⟩ = some (.int .u8 231) ∧ w.cell? ⟨g, 3, none⟩ = some (.int .u8 228) ∧ w.cell? ⟨g, 15, none⟩ = some (.int .u8 196) := by
  have c0 := bytesC_at h 0 (by rw [exBlock_length]; omega)
  have c1 := bytesC_at h 1 (by rw [exBlock_length]; omega)
  have c2 := bytesC_at h 2 (by rw [exBlock_length]; omega)
  have c3 := bytesC_at h 3 (by rw [exBlock_length]; omega)
  have c4 := bytesC_at h 15 (by rw [exBlock_length]; omega)
  rw [exBlock_at.1] at c0
  rw [exBlock_at.2.1] at c1
  rw [exBlock_at.2.2.1] at c2
  rw [exBlock_at.2.2.2.1] at c3
  rw [exBlock_at.2.2.2.2] at c4
  exact ⟨c0, c1, c2, c3, c4⟩

set_option maxHeartbeats 2000000 in
theorem awake_true (w : World) (hq : Quar w) : Calls Tryd.prog 9 #[] w (RetV w (.bool true)) := by
  have HQ := Lib.hid hq
  clear hq
  go_enter Tryd.func9, Tryd.ntmps9
  go_wp2_with fail
  refine (Quarter_ex _).mono ?_
  rintro e w1 ⟨rfl, b1⟩
  go_wp2_with (first
    | ((with_reducible refine wpList_alloc_row (o := ⟨some 1, _, _, _, _, _⟩) rfl 24 rfl (wordsC zeroW) Tryd.zeroWs ?_); intro g1 w2 n2)
    | ((with_reducible refine wpList_store_row (o := ⟨none, _, _, _, _, _⟩) rfl 24 (.tmp 1) (.tmp 6) rfl g1 24 _ (wordsC exOut) (by with_unfolding_all rfl) (by with_unfolding_all rfl) n2.row (wordsC_same zeroW_length exOut_length) (Tryd.sizeWs _ exOut_length) (wordsC_one _) ?_); intro w3 p3)
    | ((with_reducible refine wpList_alloc_row (o := ⟨some 2, _, _, _, _, _⟩) rfl 26 rfl (keyC zeroKey) Tryd.zeroK ?_); intro g2 w4 n4)
    | ((with_reducible refine wpList_store_row (o := ⟨none, _, _, _, _, _⟩) rfl 26 (.tmp 2) (.tmp 7) rfl g2 26 _ (keyC zeroKey) (by with_unfolding_all rfl) (by with_unfolding_all exact zeroKey_lit) n4.row rfl (Tryd.sizeKey _ zeroKey_length) (keyC_one _) ?_); intro w5 p5))
  have z1 := b1.size
  have z2 := n2.size
  have z3 := p3.size
  have e1 := n2.spot
  have e2 := n4.spot
  have hg1 : w.heap.size ≤ g1 := by omega
  have hg2 : w.heap.size ≤ g2 := by omega
  have h12 : g1 ≠ g2 := by omega
  have B3 : Below w.heap.size w w3 := p3.below (below_size b1 n2.below) (by omega) hg1
  have B4 : Below w.heap.size w w4 := below_size B3 n4.below
  have B5 : Hid (Below w.heap.size w w5) := p5.below B4 B4.size hg2
  have R1 : Hid (RowAt w5 g1 24 (wordsC exOut)) := (p3.row.kept n4.below).grown p5.grown (by intro h; injection h with h; omega)
  have R2 : Hid (RowAt w5 g2 26 (keyC (fillB (exKey 0) 32))) := p5.row
  clear n2 p3 n4 p5 z1 z2 z3 e1 e2 B3 B4 b1
  go_loopw [3] (fun i wr => ∃ k : Nat, k ≤ 32 ∧ i = .int .i64 k ∧ RowAt wr g1 24 (wordsC exOut) ∧ RowAt wr g2 26 (keyC (fillB (exKey k) 32)) ∧ Below w.heap.size w wr) (fun i _ => 32 - (intOf i).toNat)
  case atStart => exact ⟨0, by omega, rfl, R1.out, R2.out, B5.out⟩
  case round =>
    clear R1 R2 B5
    obtain ⟨k, hk, rfl, hr1, hr2, hb⟩ := hrel
    have R1 := Lib.hid hr1
    have R2 := Lib.hid hr2
    have HB := Lib.hid hb
    clear hr1 hr2 hb
    by_cases hlt : k < 32
    · have hcell := bytesC_at R2.out k (by rw [fillB_length _ _ (by rw [exKey_length]; omega)]; exact hlt)
      have hfz := R2.out.frozen k
      have hput := R2.out.put k (.int .u8 ((UInt8.ofNat k).toNat : Int))
      have hst := fillB_set (exKey k) 32 (UInt8.ofNat k) (by rw [exKey_length]; omega)
      rw [exKey_length, ← exKey_succ] at hst
      rw [bytesC_put, hst, UInt8.toNat_ofNat_of_lt' (by show k < 256; omega)] at hput
      have HP := Lib.hid hput
      generalize (fillB (exKey k) 32).getD k 0 = old at hcell
      clear hput hst
      go_wp2
      go_roundw
      case rel => exact ⟨k + 1, by omega, by go_num, R1.out.far (by show g1 ≠ g2; exact h12) _, HP.out, HB.out.setCell hg2 _⟩
      case measure => simp [intOf]; omega
    · have hk32 : k = 32 := by omega
      have R32 : Hid (RowAt wr g2 26 (keyC (exKey 32))) := by
        have := R2.out
        rw [hk32, fillB_all _ _ (exKey_length 32)] at this
        exact this
      clear hk32 R2
      go_wp2_with (with_reducible refine wpList_load_row (o := ⟨some 16, _, _, _, _, _⟩) rfl 26 (.tmp 2) rfl g2 (by with_unfolding_all rfl) 26 (keyC (exKey 32)) (0, 0) (.array 32 5) (by with_unfolding_all exact R32.out) Tryd.underlying26 rfl (Tryd.sizeKey _ (exKey_length 32)) ?_)
      refine (Block_ex _ (HQ.out.below HB.out)).mono ?_
      rintro e w6 ⟨rfl, b6⟩
      have R6 : Hid (RowAt w6 g1 24 (wordsC exOut)) := R1.out.kept b6
      have B6 : Hid (Below w.heap.size w w6) := below_size HB.out b6
      clear b6 R1 R32 HB HQ
      go_wp2_with (first
        | ((with_reducible refine wpList_alloc_row (o := ⟨some 4, _, _, _, _, _⟩) rfl 31 rfl (keyC zero64B) Tryd.zero64B ?_); intro g7 w7 n7)
        | ((with_reducible refine wpList_store_row (o := ⟨none, _, _, _, _, _⟩) rfl 31 (.tmp 4) (.tmp 18) rfl g7 31 _ (keyC exBlock) (by with_unfolding_all rfl) (by with_unfolding_all rfl) n7.row (keyC_sameN zero64B_length exBlock_length) (Tryd.size64B _ exBlock_length) (keyC_one _) ?_); intro w8 p8; have r8 := (R6.out.kept n7.below).grown p8.grown (by intro h; injection h with h; have := n7.spot; have := R6.out.lt; omega); obtain ⟨c0, c1, c2, c3⟩ := exOut_cells r8; obtain ⟨d0, d1, d2, d3, d4⟩ := exBlock_cells p8.row; have B8 := Lib.hid (p8.below (below_size B6.out n7.below) (by have := n7.below.size; have := B6.out.size; omega) (by have := n7.spot; have := B6.out.size; omega)); clear r8 n7 p8))
      go_ret
      exact ⟨rfl, B8.out⟩
end Go.Proofs.YtplaoofclgpeeaaDoor
