/-
  Keyed digests as plain functions; what a Meter that keeps nothing is through calls; contracts of mac.keyBlock and mac.mixed. Conditions: as each theorem names them.
-/
import Derived.Test.YtdojaighchgghaaDoorShaU
import Derived.Test.YtdojaighchgghaaDoorE
namespace Go.Proofs.YtdojaighchgghaaDoor
open Go.RowKit
set_option linter.unusedVariables false
set_option maxRecDepth 20000

def blockK (key : List UInt8) : List UInt8 := fillB (if 64 < key.length then digestB key else key) 64
def mixB (block : List UInt8) (x : UInt8) : List UInt8 := block.map (· ^^^ x)
def macB (key msg : List UInt8) : List UInt8 := digestB (mixB (blockK key) 92 ++ digestB (mixB (blockK key) 54 ++ msg))
theorem blockK_length (key : List UInt8) : (blockK key).length = 64 := by
  unfold blockK
  apply fillB_length
  split
  · rw [digestB_length]; omega
  · omega
theorem mixB_length (b : List UInt8) (x : UInt8) : (mixB b x).length = b.length := by simp [mixB]
theorem macB_length (key msg : List UInt8) : (macB key msg).length = 32 := digestB_length _

theorem grown_refl (w : World) (a : Option Nat) : w.grownBy w a := ⟨rfl, rfl, rfl, Nat.le_refl _, fun _ _ _ => rfl⟩
theorem grown_trans {w x y : World} {a : Option Nat} (h : w.grownBy x a) (k : x.grownBy y a) : w.grownBy y a :=
  ⟨k.os.trans h.os, k.tape.trans h.tape, k.output.trans h.output, Nat.le_trans h.size k.size, fun i hi h1 => (k.block i (Nat.lt_of_lt_of_le hi h.size) h1).trans (h.block i hi h1)⟩
theorem grown_below {w x : World} (a : Option Nat) (h : Below w.heap.size w x) : w.grownBy x a := ⟨h.os, h.tape, h.output, h.size, fun k hk _ => h.block k hk⟩

/-- From w to x with a Meter at g that keeps nothing and was made behind w0: it has counted n; all else that was there at w is as it was. -/
structure Run (w0 w : World) (g n : Nat) (x : World) : Prop where
  below : Below w0.heap.size w0 x
  row : RowAt x g 83 (meterC false n (.slice none 0 0))
  tabs0 : Tabs w0
  far : w0.heap.size ≤ g
  old : w0.heap.size ≤ w.heap.size
  row0 : ∃ n0, RowAt w g 83 (meterC false n0 (.slice none 0 0))
  grown : w.grownBy x (some g)
theorem Run.tabs {w0 w x : World} {g n : Nat} (h : Run w0 w g n x) : Tabs x := h.tabs0.below h.below
theorem Run.self {w0 w x : World} {g n : Nat} (h : Run w0 w g n x) : Run w0 x g n x := ⟨h.below, h.row, h.tabs0, h.far, h.below.size, ⟨n, h.row⟩, grown_refl _ _⟩
theorem Run.new {w0 w x : World} {g : Nat} (ht : Tabs w0) (hb : Below w0.heap.size w0 w) (h : NewRow w g 83 (meterC false 0 (.slice none 0 0)) x) : Run w0 x g 0 x :=
  ⟨below_size hb h.below, h.row, ht, by rw [h.spot]; exact hb.size, (below_size hb h.below).size, ⟨0, h.row⟩, grown_refl _ _⟩
theorem Run.kept {w0 w x y : World} {g n : Nat} (h : Run w0 w g n x) (hb : Below x.heap.size x y) : Run w0 w g n y :=
  ⟨below_size h.below hb, h.row.kept hb, h.tabs0, h.far, h.old, h.row0, grown_trans h.grown (grown_below _ hb)⟩
theorem Run.trans {w0 w x y : World} {g n m : Nat} (h : Run w0 w g n x) (k : Run w0 x g m y) : Run w0 w g m y :=
  ⟨k.below, k.row, h.tabs0, h.far, h.old, h.row0, grown_trans h.grown k.grown⟩
theorem Run.put {w0 w x y : World} {g n i : Nat} {t : TypeId} {cs : Array Value} (h : Run w0 w g n x) (p : PutRow x i t cs y) (hi : w.heap.size ≤ i) (hg : i ≠ g) : Run w0 w g n y :=
  ⟨p.below h.below h.below.size (Nat.le_trans h.old hi), h.row.grown p.grown (by intro e; injection e with e; exact hg e.symm), h.tabs0, h.far, h.old, h.row0,
    ⟨p.grown.os.trans h.grown.os, p.grown.tape.trans h.grown.tape, p.grown.output.trans h.grown.output, Nat.le_trans h.grown.size p.grown.size, fun k hk h1 => (p.grown.block k (Nat.lt_of_lt_of_le hk h.grown.size) (by intro e; injection e with e; omega)).trans (h.grown.block k hk h1)⟩⟩
theorem Run.other {w0 w x : World} {g n k : Nat} {t : TypeId} {cs : Array Value} (h : Run w0 w g n x) (hr : RowAt w k t cs) (hk : k ≠ g) : RowAt x k t cs := hr.grown h.grown (by intro e; injection e with e; exact hk e)
theorem Run.bs {w0 w x : World} {g n : Nat} {v : Value} {l : List UInt8} (h : Run w0 w g n x) (hv : Bs w v l) : Bs x v l := by
  obtain ⟨n0, h0⟩ := h.row0
  exact hv.meter h0 h.grown
theorem Run.size {w0 w x : World} {g n : Nat} (h : Run w0 w g n x) : w.heap.size ≤ x.heap.size := h.grown.size
theorem Run.glt {w0 w x : World} {g n : Nat} (h : Run w0 w g n x) : g < w.heap.size := by
  obtain ⟨n0, h0⟩ := h.row0
  exact h0.lt

theorem Sum_run (w0 w : World) (g n : Nat) (v : Value) (ls : List (List UInt8)) (d : List UInt8) (h : Run w0 w g n w) (hn : n ≤ 1000000000) (hd : d = digestB ls.flatten) (hb : Bss w v ls) (hl : ls.flatten.length ≤ 1000000) (hm : ls.length ≤ 1000000) :
    Calls Tryd.prog 21 #[.pointer (some ⟨g, 0, none⟩), v] w fun e w' => e = .returned (.agg (keyC d)) ∧ Run w0 w g (n + 1) w' := by
  refine (Sum_is w h.tabs g n _ v ls d hd hn h.row hb hl hm).mono fun e w' hp => ?_
  obtain ⟨he, hr, hg⟩ := hp
  exact ⟨he, h.below.grown hg h.below.size (fun k e => by injection e with e; rw [← e]; exact h.far), hr, h.tabs0, h.far, h.old, ⟨n, h.row⟩, hg⟩

theorem zb64_fill (key : List UInt8) (h : key.length ≤ 64) : zb64.take 0 ++ key ++ zb64.drop (0 + key.length) = fillB key 64 := by
  rw [List.take_zero, List.nil_append, Nat.zero_add, zb64, List.drop_replicate, fillB]
theorem zb_copied {w : World} {g : Nat} {t : TypeId} {key : List UInt8} (h : key.length ≤ 64) (hr : w.heap[g]? = some (.cells (splice (cellsB zb64) 0 (cellsB key)).toArray t (0, 0))) : RowAt w g t (keyC (fillB key 64)) := by
  rw [splice_bytes, zb64_fill key h] at hr
  exact hr

set_option maxHeartbeats 1000000 in
theorem keyBlock_short (w : World) (p v : Value) (key : List UInt8) (hb : Bs w v key) (hk : key.length ≤ 64) :
    Calls Tryd.prog 52 #[p, v] w (RetV w (.agg (keyC (fillB key 64)))) := by
  have HB := Lib.hid hb
  obtain ⟨A, c, rfl, h1, h2, h3⟩ := hb
  unfold maxLen at h2
  have d1 : decide ((64 : Int) < (key.length : Int)) = false := by simp; omega
  have HL := Lib.hid (fillB_length key 64 hk)
  clear h3
  go_enter Tryd.func52, Tryd.ntmps52
  go_wp2_with (first
    | ((with_reducible refine wpList_alloc_row (o := ⟨some 4, _, _, _, _, _⟩) rfl 24 rfl (keyC zb64) Tryd.zeroB64 ?_); intro g1 w1 n1)
    | ((with_reducible refine wpList_alloc_row (o := ⟨some 6, _, _, _, _, _⟩) rfl 24 rfl (keyC zb64) Tryd.zeroB64 ?_); intro g2 w2 n2)
    | ((with_reducible refine wpList_copy_splice (o := ⟨some 17, _, _, _, _, _⟩) rfl (.tmp 15) (.tmp 16) 27 27 rfl 5 Tryd.underlying27 Tryd.sizeB (some ⟨g2, 0, none⟩) A 64 64 key.length c (by with_unfolding_all rfl) (by with_unfolding_all rfl) g2 0 (cellsB zb64) 24 (by with_unfolding_all exact n2.row) (cellsB key) (by rw [cellsB_length]; exact (Nat.min_eq_left hk).symm) (copy_from ((HB.out.below n1.below).below n2.below)) (by rw [cellsB_length, cellsB_length, zb64_length]; omega) (cellsB_one key) w1.heap.size w1 n2.below (Nat.le_of_eq n2.spot.symm) ?_); (intro w3 hr3 hb3; have hr4 := zb_copied hk hr3.out))
    | (with_reducible refine wpList_load_row (o := ⟨some 18, _, _, _, _, _⟩) rfl 24 (.tmp 6) rfl g2 (by with_unfolding_all rfl) 24 (keyC (fillB key 64)) (0, 0) (.array 64 5) (by with_unfolding_all exact hr4) Tryd.underlying24 rfl (Tryd.size64b _ HL.out) ?_)
    | ((with_reducible refine wpList_store_row (o := ⟨none, _, _, _, _, _⟩) rfl 24 (.tmp 4) (.tmp 18) rfl g1 24 _ (keyC (fillB key 64)) (by with_unfolding_all rfl) (by with_unfolding_all rfl) (n1.row.kept hb3) (by rw [keyC_size, keyC_size, zb64_length, HL.out]) (Tryd.size64b _ HL.out) (keyC_one _) ?_); intro w4 p4))
  refine bodyPost_ret (results_cell_row rfl _ _ g1 24 (keyC (fillB key 64)) (0, 0) (.array 64 5) rfl p4.row Tryd.underlying24 rfl (Tryd.size64b _ HL.out)) rfl ⟨rfl, ?_⟩
  exact p4.below (below_size n1.below hb3) (by have := n1.below.size; have := hb3.size; omega) (by rw [n1.spot]; exact Nat.le_refl _)

set_option maxHeartbeats 1000000 in
theorem keyBlock_long (w0 w : World) (g n : Nat) (v : Value) (key : List UInt8) (h : Run w0 w g n w) (hn : n ≤ 1000000000) (hb : Bs w v key) (hk : 64 < key.length) (hk2 : key.length ≤ 100000) :
    Calls Tryd.prog 52 #[.pointer (some ⟨g, 0, none⟩), v] w fun e w' => e = .returned (.agg (keyC (fillB (digestB key) 64))) ∧ Run w0 w g (n + 1) w' := by
  have HB := Lib.hid hb
  have HR := Lib.hid h
  have hgl := h.glt
  obtain ⟨d, hd⟩ : ∃ d, d = digestB [key].flatten := ⟨_, rfl⟩
  have hdk : digestB key = d := by rw [hd]; simp
  rw [hdk]
  have LD : Hid (d.length = 32) := by show _ = _; rw [hd, digestB_length]
  have HD := Lib.hid hd
  obtain ⟨A, c, rfl, h1, h2, h3⟩ := hb
  unfold maxLen at h2
  have d1 : decide ((64 : Int) < (key.length : Int)) = true := by simp; omega
  have HL : Hid ((fillB d 64).length = 64) := fillB_length d 64 (by rw [LD.out]; omega)
  clear h h3 hd hdk
  go_enter Tryd.func52, Tryd.ntmps52
  go_wp2_with ((with_reducible refine wpList_alloc_row (o := ⟨some 4, _, _, _, _, _⟩) rfl 24 rfl (keyC zb64) Tryd.zeroB64 ?_); intro g1 w1 n1)
  have R1 := Lib.hid (HR.out.kept n1.below)
  have Q1 := Lib.hid n1.row
  have hg1 : w.heap.size ≤ g1 := Nat.le_of_eq n1.spot.symm
  have hb1 := HB.out.below n1.below
  clear n1 HR
  refine (Sum_run w0 _ g n _ [key] d (by exact (R1.out.kept (alloc_below _ _)).self) hn HD.out (by exact Bss.one _ _ _ _ hb1) (by simp; omega) (by simp)).mono ?_
  intro e w2 h
  obtain ⟨he, r2⟩ := h
  subst he
  have R2 := Lib.hid ((R1.out.kept (alloc_below _ _)).trans r2)
  have Q2 := Lib.hid (r2.other (Q1.out.kept (alloc_below _ _)) (by omega))
  clear r2 R1 Q1 hb1
  go_wp2_with (first
    | ((with_reducible refine wpList_alloc_row (o := ⟨some 5, _, _, _, _, _⟩) rfl 33 rfl (keyC zeroKey) Tryd.zeroK ?_); intro g3 w3 n3)
    | ((with_reducible refine wpList_store_row (o := ⟨none, _, _, _, _, _⟩) rfl 33 (.tmp 5) (.tmp 13) rfl g3 33 _ (keyC d) (by with_unfolding_all rfl) (by with_unfolding_all rfl) n3.row (keyC_same zeroKey_length LD.out) (Tryd.sizeKey d LD.out) (keyC_one d) ?_); intro w4 p4)
    | ((with_reducible refine wpList_alloc_row (o := ⟨some 6, _, _, _, _, _⟩) rfl 24 rfl (keyC zb64) Tryd.zeroB64 ?_); intro g5 w5 n5)
    | ((with_reducible refine wpList_copy_splice (o := ⟨some 17, _, _, _, _, _⟩) rfl (.tmp 15) (.tmp 16) 27 27 rfl 5 Tryd.underlying27 Tryd.sizeB (some ⟨g5, 0, none⟩) (some ⟨g3, 0, none⟩) 64 64 32 32 (by with_unfolding_all rfl) (by with_unfolding_all rfl) g5 0 (cellsB zb64) 24 (by with_unfolding_all exact n5.row) (cellsB d) (by rw [cellsB_length, LD.out]; exact (Nat.min_eq_left (by omega)).symm) (copy_from ((row32 p4.row LD.out).below n5.below)) (by rw [cellsB_length, cellsB_length, zb64_length, LD.out]; omega) (cellsB_one d) w4.heap.size w4 n5.below (Nat.le_of_eq n5.spot.symm) ?_); (intro w6 hr6 hb6; have hr7 := zb_copied (by rw [LD.out]; omega) hr6.out; have R6 := Lib.hid ((R2.out.kept (laid_put n3 p4).1).kept hb6); have Q6 := Lib.hid ((Q2.out.kept (laid_put n3 p4).1).kept hb6)))
    | (with_reducible refine wpList_load_row (o := ⟨some 18, _, _, _, _, _⟩) rfl 24 (.tmp 6) rfl g5 (by with_unfolding_all rfl) 24 (keyC (fillB d 64)) (0, 0) (.array 64 5) (by with_unfolding_all exact hr7) Tryd.underlying24 rfl (Tryd.size64b _ HL.out) ?_)
    | ((with_reducible refine wpList_store_row (o := ⟨none, _, _, _, _, _⟩) rfl 24 (.tmp 4) (.tmp 18) rfl g1 24 _ (keyC (fillB d 64)) (by with_unfolding_all rfl) (by with_unfolding_all rfl) Q6.out (by rw [keyC_size, keyC_size, zb64_length, HL.out]) (Tryd.size64b _ HL.out) (keyC_one _) ?_); intro w7 p7))
  refine bodyPost_ret (results_cell_row rfl _ _ g1 24 (keyC (fillB d 64)) (0, 0) (.array 64 5) rfl p7.row Tryd.underlying24 rfl (Tryd.size64b _ HL.out)) rfl ⟨rfl, ?_⟩
  exact R6.out.put p7 hg1 (by omega)

theorem keyBlock_any (w0 w : World) (g n : Nat) (v : Value) (key : List UInt8) (h : Run w0 w g n w) (hn : n ≤ 1000000000) (hb : Bs w v key) (hk2 : key.length ≤ 100000) :
    Calls Tryd.prog 52 #[.pointer (some ⟨g, 0, none⟩), v] w fun e w' => ∃ n', n' ≤ n + 1 ∧ e = .returned (.agg (keyC (blockK key))) ∧ Run w0 w g n' w' := by
  by_cases hk : 64 < key.length
  · rw [blockK, if_pos hk]
    exact (keyBlock_long w0 w g n v key h hn hb hk hk2).mono fun _ _ hp => ⟨n + 1, Nat.le_refl _, hp⟩
  · rw [blockK, if_neg hk]
    exact (keyBlock_short w _ v key hb (by omega)).mono fun _ _ hp => ⟨n, by omega, hp.1, h.kept hp.2⟩

def partMix (b : List UInt8) (x : UInt8) (k : Nat) : List UInt8 := mixB (b.take k) x ++ b.drop k
theorem partMix_length (b : List UInt8) (x : UInt8) (k : Nat) (h : k ≤ b.length) : (partMix b x k).length = b.length := by simp [partMix, mixB]; omega
theorem partMix_get (b : List UInt8) (x : UInt8) (k : Nat) (h : k < b.length) : (partMix b x k).getD k 0 = b.getD k 0 := by
  simp only [partMix, List.getD_eq_getElem?_getD]
  rw [List.getElem?_append_right (by simp [mixB]; omega)]
  simp [mixB, Nat.min_eq_left (Nat.le_of_lt h)]
theorem partMix_step (b : List UInt8) (x : UInt8) (k : Nat) (h : k < b.length) : (partMix b x k).set k (b.getD k 0 ^^^ x) = partMix b x (k + 1) := by
  have e1 : (mixB (b.take k) x).length = k := by simp [mixB]; omega
  unfold partMix
  rw [List.set_append_right _ _ (by rw [e1]; exact Nat.le_refl _), e1, Nat.sub_self, List.drop_eq_getElem_cons h, List.set_cons_zero]
  have e2 := List.take_succ_eq_append_getElem (l := b.map (· ^^^ x)) (i := k) (by simpa using h)
  simp only [mixB, List.map_take]
  rw [e2, List.append_assoc]
  simp [List.getD_eq_getElem?_getD, h]
theorem partMix_all (b : List UInt8) (x : UInt8) (n : Nat) (h : b.length = n) : partMix b x n = mixB b x := by
  rw [← h]; simp [partMix, mixB]

set_option maxHeartbeats 1000000 in
theorem mixed_any (w : World) (b : List UInt8) (x : UInt8) (hl : b.length = 64) :
    Calls Tryd.prog 53 #[.agg (keyC b), .int .u8 (x.toNat : Int)] w (RetBs w (mixB b x)) := by
  have HL := Lib.hid hl
  have hx := x.toNat_lt
  clear hl
  go_enter Tryd.func53, Tryd.ntmps53
  go_wp2_with ((with_reducible refine wpList_box_row (o := ⟨some 2, _, _, _, _, _⟩) rfl 24 (.tmp 0) rfl (keyC b) (by with_unfolding_all rfl) ?_); intro g1 w1 n1)
  have hg1 : w.heap.size ≤ g1 := Nat.le_of_eq n1.spot.symm
  have R1 : Hid (RowAt w1 g1 24 (keyC (partMix b x 0))) := by
    have := n1.row
    rwa [show b = partMix b x 0 by simp [partMix, mixB]] at this
  have B1 := Lib.hid n1.below
  clear n1
  go_loopw [6] (fun i wr => ∃ k : Nat, k ≤ 64 ∧ i = .int .i64 k ∧ RowAt wr g1 24 (keyC (partMix b x k)) ∧ Below w.heap.size w wr) (fun i _ => 64 - (intOf i).toNat)
  case atStart => exact ⟨0, by omega, rfl, R1.out, B1.out⟩
  case round =>
    clear R1 B1
    obtain ⟨k, hk, rfl, hr, hb⟩ := hrel
    have R1 := Lib.hid hr
    have HB := Lib.hid hb
    clear hr hb
    by_cases hlt : k < 64
    · have hpl := partMix_length b x k (by rw [HL.out]; omega)
      have hc := bytesC_cellD R1.out k (by rw [hpl, HL.out]; exact hlt)
      rw [partMix_get b x k (by rw [HL.out]; exact hlt)] at hc
      have hfz := R1.out.frozen k
      have hput := R1.out.put k (.int .u8 ((b.getD k 0 ^^^ x).toNat : Int))
      rw [bytesC_put, partMix_step b x k (by rw [HL.out]; exact hlt)] at hput
      have HP := Lib.hid hput
      generalize b.getD k 0 = y at hc HP
      have hq : (k : Int) < 64 := by omega
      clear hput hpl
      go_wp2_with fail
      go_roundw
      case rel => exact ⟨k + 1, by omega, by go_num, by rw [xor_byte]; exact HP.out, HB.out.setCell hg1 _⟩
      case measure => simp [intOf]; omega
    · have hk64 : k = 64 := by omega
      have R2 : Hid (RowAt wr g1 24 (keyC (mixB b x))) := by
        have := R1.out
        rw [hk64, partMix_all b x 64 HL.out] at this
        exact this
      clear hk64 R1
      go_wp2
      go_ret
      refine ⟨_, rfl, ?_, HB.out⟩
      have h := row_bs R2.out (by rw [mixB_length, HL.out]; unfold maxLen; omega)
      rwa [mixB_length, HL.out] at h
end Go.Proofs.YtdojaighchgghaaDoor
