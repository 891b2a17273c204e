/-
  Contracts of the stream's blocks: wordAt, begin, written. Conditions: as each theorem names them.
-/
import Derived.Test.YtplaoofclgpeeaaDoorStreamA
import Derived.Test.YtplaoofclgpeeaaDoorC
import Derived.Test.YtplaoofclgpeeaaDoorD
import Derived.Test.YtplaoofclgpeeaaDoorJ
import Derived.Deep.RegionLaw
namespace Go.Proofs.YtplaoofclgpeeaaDoor
open Go.RowKit
set_option linter.unusedVariables false
set_option maxRecDepth 20000

theorem Bs.mid {w : World} {A : Option Addr} {n c : Nat} {l : List UInt8} (h : Bs w (.slice A n c) l) (k m : Nat) (hm : 0 < m) (hk : k + m ≤ l.length) :
    Bs w (.slice (Option.map (fun x => x.add k) A) m (c - k)) ((l.drop k).take m) := by
  obtain ⟨A', c', hv, h1, h2, h3⟩ := h
  injection hv with e1 e2 e3
  subst e1 e2 e3
  have hl : ((l.drop k).take m).length = m := by simp; omega
  obtain ⟨b, off, rfl, hc⟩ := h3 (by omega)
  have hadd : (⟨b, off, none⟩ : Addr).add k = ⟨b, off + k, none⟩ := by unfold Addr.add; split <;> simp_all
  refine ⟨_, c - k, by rw [hl], by rw [hl]; omega, by omega, fun _ => ⟨b, off + k, by simp [hadd], fun j hj => ?_⟩⟩
  rw [hl] at hj
  rw [Nat.add_assoc, hc (k + j) (by omega)]
  simp

/-- A whole array of bytes, as a slice. -/
theorem arr_bs {w : World} {g : Nat} {t : TypeId} {l : List UInt8} (h : RowAt w g t (keyC l)) (n : Nat) (hl : l.length = n) (hm : n ≤ 1000000) : Bs w (.slice (some ⟨g, 0, none⟩) n n) l := by
  subst hl
  exact row_bs h (by unfold maxLen; omega)

theorem ofLow4_lt (l : List UInt8) (i : Nat) : ofLowB ((l.drop (4 * i)).take 4) < 4294967296 := by
  have h := ofLowB_lt ((l.drop (4 * i)).take 4)
  have : ((l.drop (4 * i)).take 4).length ≤ 4 := List.length_take_le _ _
  have h2 : 256 ^ ((l.drop (4 * i)).take 4).length ≤ 256 ^ 4 := Nat.pow_le_pow_right (by omega) this
  omega

set_option maxHeartbeats 400000 in
theorem wordAt_any (w : World) (v : Value) (l : List UInt8) (h : Bs w v l) (i : Nat) (hi : 4 * i + 4 ≤ l.length) (hl : l.length ≤ 1000000) :
    Calls Tryd.prog 25 #[v, .int .i64 (i : Int)] w fun e w' => e = .returned (.int .u32 ((wordLow l i).toNat : Int)) ∧ w = w' := by
  have HB := Lib.hid h
  obtain ⟨A, c, rfl, h1, h2, h3⟩ := h
  unfold maxLen at h2
  have HM := Lib.hid (HB.out.mid (4 * i) 4 (by omega) hi)
  have hv := ofLow4_lt l i
  have ht8 : ((l.drop (4 * i)).take 4).take 8 = (l.drop (4 * i)).take 4 := List.take_of_length_le (by simp; omega)
  have hwo : IntKind.u32.wrap (ofLowB ((l.drop (4 * i)).take 4) : Int) = ((wordLow l i).toNat : Int) := by
    rw [IntKind.wrap_u32, wordLow, UInt32.toNat_ofNat']
    omega
  have HT := Lib.hid ht8
  have HW := Lib.hid hwo
  clear h3 hv ht8 hwo
  go_enter Tryd.func25, Tryd.ntmps25
  go_wp2_with fail
  rw [show 4 * (i + 1) - 4 * i = 4 by omega]
  refine (OfLow_any _ _ _ HM.out).mono ?_
  rintro e w' ⟨rfl, rfl⟩
  rw [HT.out]
  have hwo := HW.out
  go_wp2
  go_ret
  exact ⟨rfl, rfl⟩

/-- Words that are there, and zeros behind them. -/
def fillW (a : List UInt32) (n : Nat) : List UInt32 := a ++ List.replicate (n - a.length) 0
theorem fillW_length (a : List UInt32) (n : Nat) (h : a.length ≤ n) : (fillW a n).length = n := by simp [fillW]; omega
theorem fillW_step (a : List UInt32) (n : Nat) (x : UInt32) (h : a.length < n) : (fillW a n).set a.length x = fillW (a ++ [x]) n := by
  unfold fillW
  rw [List.set_append_right _ _ (Nat.le_refl _), Nat.sub_self, show n - a.length = (n - (a ++ [x]).length) + 1 by simp; omega, List.replicate_succ, List.set_cons_zero]
  simp
theorem fillW_all (a : List UInt32) (n : Nat) (h : a.length = n) : fillW a n = a := by simp [fillW, h]
def constsW : List UInt32 := [0x61707865, 0x3320646e, 0x79622d32, 0x6b206574]
def headS (key : List UInt8) (j : Nat) : List UInt32 := constsW ++ (List.range j).map (wordLow key)
def tailS (key : List UInt8) (ctr : UInt32) (nonce : List UInt8) (j : Nat) : List UInt32 := headS key 8 ++ [ctr] ++ (List.range j).map (wordLow nonce)
theorem headS_length (key : List UInt8) (j : Nat) : (headS key j).length = 4 + j := by simp [headS, constsW]; omega
theorem tailS_length (key : List UInt8) (ctr : UInt32) (nonce : List UInt8) (j : Nat) : (tailS key ctr nonce j).length = 13 + j := by simp [tailS, headS_length]; omega
theorem headS_succ (key : List UInt8) (j : Nat) : headS key (j + 1) = headS key j ++ [wordLow key j] := by simp [headS, List.range_succ]
theorem tailS_succ (key : List UInt8) (ctr : UInt32) (nonce : List UInt8) (j : Nat) : tailS key ctr nonce (j + 1) = tailS key ctr nonce j ++ [wordLow nonce j] := by simp [tailS, List.range_succ]
theorem headS_zero (key : List UInt8) : headS key 0 = constsW := by simp [headS]
theorem tailS_zero (key : List UInt8) (ctr : UInt32) (nonce : List UInt8) : tailS key ctr nonce 0 = headS key 8 ++ [ctr] := by simp [tailS]

theorem Tryd.zeroK32 : (Tryd.prog.info? 26).map (·.zero) = some (some (.agg (keyC zeroKey))) := by kernel_rfl
theorem litsW : (#[.int .u32 1634760805, .int .u32 857760878, .int .u32 2036477234, .int .u32 1797285236, .int .u32 0, .int .u32 0, .int .u32 0, .int .u32 0, .int .u32 0, .int .u32 0, .int .u32 0, .int .u32 0, .int .u32 0, .int .u32 0, .int .u32 0, .int .u32 0] : Array Value) = wordsC (fillW constsW 16) := by kernel_rfl

theorem initW_length : (fillW constsW 16).length = 16 := rfl
theorem litsV : Value.agg #[.int .u32 1634760805, .int .u32 857760878, .int .u32 2036477234, .int .u32 1797285236, .int .u32 0, .int .u32 0, .int .u32 0, .int .u32 0, .int .u32 0, .int .u32 0, .int .u32 0, .int .u32 0, .int .u32 0, .int .u32 0, .int .u32 0, .int .u32 0] = .agg (wordsC (fillW constsW 16)) := by rw [litsW]

set_option maxHeartbeats 1000000 in
theorem begin_any (w : World) (key nonce : List UInt8) (ctr : UInt32) (hk : key.length = 32) (hn : nonce.length = 12) :
    Calls Tryd.prog 19 #[keyV key, .int .u32 (ctr.toNat : Int), keyV nonce] w (RetV w (.agg (wordsC (firstS key ctr nonce)))) := by
  obtain ⟨fin, hfin⟩ : ∃ fin, fin = firstS key ctr nonce := ⟨_, rfl⟩
  have HFL : Hid (fin.length = 16) := by show _ = _; rw [hfin, firstS_length]
  rw [← hfin]
  have HF : Hid (fin = tailS key ctr nonce 3) := hfin
  have HK := Lib.hid hk
  have HN := Lib.hid hn
  have hctr := ctr.toNat_lt
  clear hfin hk hn
  go_enter Tryd.func19, Tryd.ntmps19
  go_wp2_with (first
    | ((with_reducible refine wpList_box_row (o := ⟨some 3, _, _, _, _, _⟩) rfl 26 (.tmp 0) rfl (keyC key) (by with_unfolding_all rfl) ?_); intro g1 w1 n1)
    | ((with_reducible refine wpList_box_row (o := ⟨some 5, _, _, _, _, _⟩) rfl 27 (.tmp 2) rfl (keyC nonce) (by with_unfolding_all rfl) ?_); intro g2 w2 n2)
    | ((with_reducible refine wpList_alloc_row (o := ⟨some 6, _, _, _, _, _⟩) rfl 24 rfl (wordsC zeroW) Tryd.zeroWs ?_); intro g3 w3 n3)
    | ((with_reducible refine wpList_alloc_row (o := ⟨some 7, _, _, _, _, _⟩) rfl 24 rfl (wordsC zeroW) Tryd.zeroWs ?_); intro g4 w4 n4)
    | ((with_reducible refine wpList_store_row (o := ⟨none, _, _, _, _, _⟩) rfl 24 (.tmp 7) (.tmp 10) rfl g4 24 _ (wordsC (fillW constsW 16)) (by with_unfolding_all rfl) (by with_unfolding_all exact litsV) n4.row (wordsC_same zeroW_length initW_length) (Tryd.sizeWs _ initW_length) (wordsC_one _) ?_); intro w5 p5))
  have HN : Hid (nonce.length = 12) := HN
  have hg1 : w.heap.size ≤ g1 := Nat.le_of_eq n1.spot.symm
  have s1 := n1.row.lt
  have s2 := n2.row.lt
  have s3 := n3.row.lt
  have e2 := n2.spot
  have e3 := n3.spot
  have e4 := n4.spot
  have z1 := n1.size
  have z2 := n2.size
  have z3 := n3.size
  have hg3 : w.heap.size ≤ g3 := by omega
  have hg4 : w.heap.size ≤ g4 := by omega
  have h14 : g1 ≠ g4 := by omega
  have h24 : g2 ≠ g4 := by omega
  have h34 : g3 ≠ g4 := by omega
  have B4 : Below w.heap.size w w4 := below_size (below_size (below_size n1.below n2.below) n3.below) n4.below
  have hr1 : RowAt w5 g1 26 (keyC key) := (((n1.row.kept n2.below).kept n3.below).kept n4.below).grown p5.grown (by intro h; injection h with h; omega)
  have hr2 : RowAt w5 g2 27 (keyC nonce) := ((n2.row.kept n3.below).kept n4.below).grown p5.grown (by intro h; injection h with h; omega)
  have hr3 : RowAt w5 g3 24 (wordsC zeroW) := (n3.row.kept n4.below).grown p5.grown (by intro h; injection h with h; omega)
  have hr4 : RowAt w5 g4 24 (wordsC (fillW (headS key 0) 16)) := by rw [headS_zero]; exact p5.row
  have B5 : Below w.heap.size w w5 := p5.below B4 B4.size hg4
  clear n1 n2 n3 n4 p5 s1 s2 s3 e2 e3 e4 z1 z2 z3 B4
  go_loopw [11] (fun i wr => ∃ k : Nat, k ≤ 8 ∧ i = .int .i64 k ∧ RowAt wr g1 26 (keyC key) ∧ RowAt wr g2 27 (keyC nonce) ∧ RowAt wr g3 24 (wordsC zeroW) ∧ RowAt wr g4 24 (wordsC (fillW (headS key k) 16)) ∧ Below w.heap.size w wr) (fun i _ => 8 - (intOf i).toNat)
  case atStart => exact ⟨0, by omega, rfl, hr1, hr2, hr3, hr4, B5⟩
  case round =>
    clear hr1 hr2 hr3 hr4 B5
    obtain ⟨k, hk, rfl, hr1, hr2, hr3, hr4, hb⟩ := hrel
    have R1 := Lib.hid hr1
    have R2 := Lib.hid hr2
    have R3 := Lib.hid hr3
    have R4 := Lib.hid hr4
    have HB := Lib.hid hb
    clear hr1 hr2 hr3 hr4 hb
    by_cases hlt : k < 8
    · have hcell := wordsC_cell R4.out (4 + k) (by rw [fillW_length _ _ (by rw [headS_length]; omega)]; omega)
      have hfz := R4.out.frozen (4 + k)
      have hput := R4.out.put (4 + k) (.int .u32 ((wordLow key k).toNat : Int))
      have hst := fillW_step (headS key k) 16 (wordLow key k) (by rw [headS_length]; omega)
      rw [headS_length, ← headS_succ] at hst
      rw [wordsC_put, hst] at hput
      have HP := Lib.hid hput
      generalize (fillW (headS key k) 16).getD (4 + k) 0 = old at hcell
      have hq : 4 + (k : Int) < 16 := by omega
      clear hput hst
      go_wp2_with fail
      refine (wordAt_any _ _ key (arr_bs R1.out 32 HK.out (by omega)) k (by rw [HK.out]; omega) (by rw [HK.out]; omega)).mono ?_
      rintro e w' ⟨rfl, rfl⟩
      go_wp2
      go_roundw
      case rel => exact ⟨k + 1, by omega, by go_num, R1.out.far (by show g1 ≠ g4; exact h14) _, R2.out.far (by show g2 ≠ g4; exact h24) _, R3.out.far (by show g3 ≠ g4; exact h34) _, HP.out, HB.out.setCell hg4 _⟩
      case measure => simp [intOf]; omega
    · have hk8 : k = 8 := by omega
      have R42 : Hid (RowAt wr g4 24 (wordsC (fillW (headS key 8) 16))) := by rw [← hk8]; exact R4
      have hcell := wordsC_cell R42.out 12 (by rw [fillW_length _ _ (by rw [headS_length]; omega)]; omega)
      have hfz := R42.out.frozen 12
      have hput := R42.out.put 12 (.int .u32 (ctr.toNat : Int))
      have hst := fillW_step (headS key 8) 16 ctr (by rw [headS_length]; omega)
      rw [headS_length, ← tailS_zero key ctr nonce] at hst
      rw [wordsC_put, show (fillW (headS key 8) 16).set 12 ctr = _ from hst] at hput
      generalize (fillW (headS key 8) 16).getD 12 0 = old at hcell
      have HP := Lib.hid hput
      clear hput hst hk8 R4
      have B42 : Hid (Below w.heap.size w (wr.setCell ⟨g4, 12, none⟩ (.int .u32 (ctr.toNat : Int)))) := HB.out.setCell hg4 _
      have R22 : Hid (RowAt (wr.setCell ⟨g4, 12, none⟩ (.int .u32 (ctr.toNat : Int))) g2 27 (keyC nonce)) := R2.out.far (by show g2 ≠ g4; exact h24) _
      have R32 : Hid (RowAt (wr.setCell ⟨g4, 12, none⟩ (.int .u32 (ctr.toNat : Int))) g3 24 (wordsC zeroW)) := R3.out.far (by show g3 ≠ g4; exact h34) _
      go_wp2
      clear hcell hfz R1 R2 R3 R42 HB
      go_loopw [23] (fun i wr => ∃ k : Nat, k ≤ 3 ∧ i = .int .i64 k ∧ RowAt wr g2 27 (keyC nonce) ∧ RowAt wr g3 24 (wordsC zeroW) ∧ RowAt wr g4 24 (wordsC (fillW (tailS key ctr nonce k) 16)) ∧ Below w.heap.size w wr) (fun i _ => 3 - (intOf i).toNat)
      case atStart => exact ⟨0, by omega, rfl, R22.out, R32.out, HP.out, B42.out⟩
      case round =>
        clear R22 R32 HP B42
        rename_i k0 _ _ _ _
        obtain ⟨k, hk, rfl, hr2, hr3, hr4, hb⟩ := hrel
        have R2 := Lib.hid hr2
        have R3 := Lib.hid hr3
        have R4 := Lib.hid hr4
        have HB := Lib.hid hb
        clear hr2 hr3 hr4 hb
        by_cases hlt3 : k < 3
        · have hcell := wordsC_cell R4.out (13 + k) (by rw [fillW_length _ _ (by rw [tailS_length]; omega)]; omega)
          have hfz := R4.out.frozen (13 + k)
          have hput := R4.out.put (13 + k) (.int .u32 ((wordLow nonce k).toNat : Int))
          have hst := fillW_step (tailS key ctr nonce k) 16 (wordLow nonce k) (by rw [tailS_length]; omega)
          rw [tailS_length, ← tailS_succ] at hst
          rw [wordsC_put, hst] at hput
          have HP := Lib.hid hput
          generalize (fillW (tailS key ctr nonce k) 16).getD (13 + k) 0 = old at hcell
          have hq : 13 + (k : Int) < 16 := by omega
          clear hput hst
          go_wp2_with fail
          refine (wordAt_any _ _ nonce (arr_bs R2.out 12 HN.out (by omega)) k (by rw [HN.out]; omega) (by rw [HN.out]; omega)).mono ?_
          rintro e w' ⟨rfl, rfl⟩
          go_wp2
          go_roundw
          case rel => exact ⟨k + 1, by omega, by go_num, R2.out.far (by show g2 ≠ g4; exact h24) _, R3.out.far (by show g3 ≠ g4; exact h34) _, HP.out, HB.out.setCell hg4 _⟩
          case measure => simp [intOf]; omega
        · have hk3 : k = 3 := by omega
          have R43 : Hid (RowAt wr g4 24 (wordsC fin)) := by
            have := R4.out
            rw [hk3, fillW_all _ _ (tailS_length key ctr nonce 3), ← HF.out] at this
            exact this
          clear hk3 R4
          go_wp2_with (first | (with_reducible refine wpList_load_row (o := ⟨some 33, _, _, _, _, _⟩) rfl 24 (.tmp 7) rfl g4 (by with_unfolding_all rfl) 24 (wordsC fin) (0, 0) (.array 16 22) (by with_unfolding_all exact R43.out) Tryd.underlying24 rfl (Tryd.sizeWs fin HFL.out) ?_) | ((with_reducible refine wpList_store_row (o := ⟨none, _, _, _, _, _⟩) rfl 24 (.tmp 6) (.tmp 33) rfl g3 24 _ (wordsC fin) (by with_unfolding_all rfl) (by with_unfolding_all rfl) R3.out (wordsC_same zeroW_length HFL.out) (Tryd.sizeWs fin HFL.out) (wordsC_one fin) ?_); intro w9 p9))
          refine bodyPost_ret (results_cell_row rfl _ _ g3 24 (wordsC fin) (0, 0) (.array 16 22) rfl p9.row Tryd.underlying24 rfl (Tryd.sizeWs fin HFL.out)) rfl ⟨rfl, ?_⟩
          exact p9.below HB.out HB.out.size hg3

def zero64B : List UInt8 := List.replicate 64 0
theorem zero64B_length : zero64B.length = 64 := by simp [zero64B]
theorem Tryd.zero64B : (Tryd.prog.info? 31).map (·.zero) = some (some (.agg (keyC zero64B))) := by kernel_rfl
theorem Tryd.size64B (l : List UInt8) (h : l.length = 64) : (Tryd.prog.info? 31).map (·.size) = some (keyC l).size := by
  rw [keyC_size, h]
  exact (by kernel_rfl : (Tryd.prog.info? 31).map (·.size) = some 64)
theorem Tryd.size32W : (Tryd.prog.info? 22).map (·.size) = some 1 := by kernel_rfl
theorem keyC_sameN {a b : List UInt8} {n : Nat} (ha : a.length = n) (hb : b.length = n) : (keyC a).size = (keyC b).size := by rw [keyC_size, keyC_size, ha, hb]
theorem bytesLow_snoc (l : List UInt32) (x : UInt32) : bytesLow (l ++ [x]) = bytesLow l ++ lowB x.toNat 4 := by simp [bytesLow]

set_option maxHeartbeats 1000000 in
theorem written_any (w : World) (ws : List UInt32) (hl : ws.length = 16) :
    Calls Tryd.prog 20 #[.agg (wordsC ws)] w (RetV w (keyV (bytesLow ws))) := by
  obtain ⟨fin, hfin⟩ : ∃ fin, fin = bytesLow ws := ⟨_, rfl⟩
  have HFL : Hid (fin.length = 64) := by show _ = _; rw [hfin, bytesLow_length, hl]
  rw [← hfin]
  have HF := Lib.hid hfin
  have HL := Lib.hid hl
  clear hfin hl
  go_enter Tryd.func20, Tryd.ntmps20
  go_wp2_with (first
    | ((with_reducible refine wpList_box_row (o := ⟨some 1, _, _, _, _, _⟩) rfl 24 (.tmp 0) rfl (wordsC ws) (by with_unfolding_all rfl) ?_); intro g1 w1 n1)
    | ((with_reducible refine wpList_alloc_row (o := ⟨some 2, _, _, _, _, _⟩) rfl 31 rfl (keyC zero64B) Tryd.zero64B ?_); intro g2 w2 n2)
    | ((with_reducible refine wpList_alloc_row (o := ⟨some 3, _, _, _, _, _⟩) rfl 31 rfl (keyC zero64B) Tryd.zero64B ?_); intro g3 w3 n3)
    | (with_reducible refine wpList_load_row (o := ⟨some 6, _, _, _, _, _⟩) rfl 24 (.tmp 1) rfl g1 (by with_unfolding_all rfl) 24 (wordsC ws) (0, 0) (.array 16 22) (by with_unfolding_all exact (n1.row.kept n2.below).kept n3.below) Tryd.underlying24 rfl (Tryd.sizeWs ws HL.out) ?_))
  have B3 : Below w.heap.size w w3 := below_size (below_size n1.below n2.below) n3.below
  have hg2 : w.heap.size ≤ g2 := by rw [n2.spot]; exact n1.below.size
  have hg3 : w.heap.size ≤ g3 := by rw [n3.spot]; have := n1.below.size; have := n2.below.size; omega
  have h23 : g2 < g3 := by have := n3.spot; have := n2.row.lt; omega
  have hr2 : RowAt w3 g2 31 (keyC zero64B) := n2.row.kept n3.below
  have hr3 : RowAt w3 g3 31 (keyC (fillB (bytesLow (ws.take 0)) 64)) := n3.row
  clear n1 n2 n3
  go_loopw [7] (fun i wr => ∃ k : Nat, k ≤ 16 ∧ i = .int .i64 k ∧ RowAt wr g2 31 (keyC zero64B) ∧ RowAt wr g3 31 (keyC (fillB (bytesLow (ws.take k)) 64)) ∧ Below w.heap.size w wr) (fun i _ => 16 - (intOf i).toNat)
  case atStart => exact ⟨0, by omega, rfl, hr2, hr3, B3⟩
  case round =>
    clear hr2 hr3 B3
    obtain ⟨k, hk, rfl, hr2, hr3, hb⟩ := hrel
    have R2 := Lib.hid hr2
    have R3 := Lib.hid hr3
    have HB := Lib.hid hb
    clear hr2 hr3 hb
    by_cases hlt : k < 16
    · have hln : (bytesLow (ws.take k)).length = 4 * k := by rw [bytesLow_length, List.length_take_of_le (by rw [HL.out]; omega)]
      have htk : bytesLow (ws.take (k + 1)) = bytesLow (ws.take k) ++ lowB (ws.getD k 0).toNat 4 := by
        rw [List.take_succ_eq_append_getElem (by rw [HL.out]; omega), bytesLow_snoc]
        simp [HL.out, hlt]
      have hix := fun x : World => run_index_arr (P := Tryd.prog) x 24 22 16 (wordsC ws) .i64 .u32 k Tryd.underlying24 Tryd.underlying22 Tryd.size32W hlt _ (wordsC_get ws k (by rw [HL.out]; omega))
      have hsl := fun x : World => run_sliceArrL (P := Tryd.prog) x 31 5 64 Tryd.underlying31 Tryd.sizeB g3 0 (4 * k) (4 * (k : Int)) (by omega) (by omega)
      rw [Nat.zero_add] at hsl
      have HT := Lib.hid htk
      have HLN := Lib.hid hln
      generalize ws.getD k 0 = x at hix HT
      have hx := x.toNat_lt
      clear htk hln
      have hdl : (lowB x.toNat 4).length = 4 := lowB_length _ _
      have HD := Lib.hid hdl
      have hq : 4 * (k : Int) < 64 := by omega
      have hw64 : IntKind.u64.wrap (x.toNat : Int) = (x.toNat : Int) := by rw [IntKind.wrap_u64]; omega
      have hs4 : 4 * k + 4 ≤ 64 := by omega
      clear hdl
      have hw4 : IntKind.i64.wrap (4 * (k : Int)) = 4 * (k : Int) := IntWalk.i64_in _ (by omega)
      have hg3r : g3 ≤ wr.heap.size := by have := R3.out.lt; omega
      go_wp2_with fail
      go_region_law (first
        | (go_simp; go_at_call 26; refine (Low_in _ x.toNat 4 (by omega) (by omega) (by omega)).mono ?_; rintro e w3 ⟨_, rfl, hbs, b3⟩; have HS := Lib.hid hbs; obtain ⟨A, c, rfl, h1, h2, h3⟩ := hbs; clear h1 h2 h3)
        | (refine step_copy_splice rfl (.tmp 13) (.tmp 16) 34 34 rfl 5 Tryd.underlying34 Tryd.sizeB (some ⟨g3, 4 * k, none⟩) A (64 - 4 * k) (64 - 4 * k) (lowB x.toNat 4).length c rfl rfl g3 (4 * k) (cellsB (fillB (bytesLow (ws.take k)) 64)) 31 (R3.out.drew.kept b3) (cellsB (lowB x.toNat 4)) (by rw [cellsB_length, HD.out]; show 4 = min 4 _; omega) (copy_from HS.out) (by rw [cellsB_length, cellsB_length, fillB_length _ _ (by rw [HLN.out]; omega), HD.out]; omega) (cellsB_one _) g3 wr ((Below.refl g3 wr).drew.trans (b3.mono hg3r)) (Nat.le_refl _) ?_; intro w4 hr4 hb4))
      have hr5 := hr4.out
      rw [splice_bytes] at hr5
      have hst := fillB_step (bytesLow (ws.take k)) (lowB x.toNat 4) 64 (by rw [HLN.out, HD.out]; omega)
      rw [HLN.out] at hst
      rw [hst, ← HT.out] at hr5
      have R5 : Hid (RowAt w4 g3 31 (keyC (fillB (bytesLow (ws.take (k + 1))) 64))) := hr5
      have HB4 : Hid (Below w.heap.size w w4) := HB.out.trans (hb4.mono hg3)
      have R24 : Hid (RowAt w4 g2 31 (keyC zero64B)) := R2.out.below hb4 h23
      clear hr5 hr4 hst hb4 hix hsl
      go_wp2
      go_roundw
      case rel => exact ⟨k + 1, by omega, by go_num, R24.out, R5.out, HB4.out⟩
      case measure => simp [intOf]; omega
    · have hk16 : k = 16 := by omega
      have R53 : Hid (RowAt wr g3 31 (keyC fin)) := by
        have := R3.out
        rw [hk16, List.take_of_length_le (by rw [HL.out]; omega), ← HF.out, fillB_all _ _ HFL.out] at this
        exact this
      clear hk16 R3
      go_wp2_with (first | (with_reducible refine wpList_load_row (o := ⟨some 19, _, _, _, _, _⟩) rfl 31 (.tmp 3) rfl g3 (by with_unfolding_all rfl) 31 (keyC fin) (0, 0) (.array 64 5) (by with_unfolding_all exact R53.out) Tryd.underlying31 rfl (Tryd.size64B fin HFL.out) ?_) | ((with_reducible refine wpList_store_row (o := ⟨none, _, _, _, _, _⟩) rfl 31 (.tmp 2) (.tmp 19) rfl g2 31 _ (keyC fin) (by with_unfolding_all rfl) (by with_unfolding_all rfl) R2.out (keyC_sameN zero64B_length HFL.out) (Tryd.size64B fin HFL.out) (keyC_one fin) ?_); intro w9 p9))
      refine bodyPost_ret (results_cell_row rfl _ _ g2 31 (keyC fin) (0, 0) (.array 64 5) rfl p9.row Tryd.underlying31 rfl (Tryd.size64B fin HFL.out)) rfl ⟨rfl, ?_⟩
      exact p9.below HB.out HB.out.size hg2
end Go.Proofs.YtplaoofclgpeeaaDoor
