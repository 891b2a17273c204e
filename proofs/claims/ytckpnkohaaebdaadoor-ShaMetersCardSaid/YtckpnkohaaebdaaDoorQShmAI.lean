/-
  Texts that belong together, merged: ShaAl, MacA, MacB, MacD, ShaJo. Conditions: as each theorem names them.
-/
import Derived.Test.YtckpnkohaaebdaaDoorQShmAG
import Derived.Test.YtckpnkohaaebdaaDoorQShmAE
import Derived.Test.YtckpnkohaaebdaaDoorQShmAD
import Derived.Test.YtckpnkohaaebdaaDoorQShmAC
import Derived.Test.YtckpnkohaaebdaaDoorQShmAF
import Derived.Test.YtckpnkohaaebdaaDoorQShmAH
section
namespace Go.Proofs.YtckpnkohaaebdaaDoor
open Go.RowKit
set_option linter.unusedVariables false
set_option maxRecDepth 20000

set_option maxHeartbeats 1000000 in
theorem Alike_of (w : World) (p : Value) (ls : List (List UInt8)) (ht : Tabs w) (hi : Calls Tryd.prog 25 #[p] w fun e w' => ∃ v, e = .returned v ∧ Bss w' v ls ∧ Below w.heap.size w w') (hp : ∃ a, p = .pointer a) (hl : ls.length ≤ 1000000) (hs : ∀ l ∈ ls, l.length ≤ 1000000) :
    Calls Tryd.prog 26 #[p] w fun e w' => AlRet ls e w' ∧ Below w.heap.size w w' := by
  have HK := Lib.hid ht
  have HI := Lib.hid hi
  have HS := Lib.hid hs
  obtain ⟨a, rfl⟩ := hp
  clear ht hi hs
  go_enter Tryd.func26, Tryd.ntmps26
  go_wp2_with fail
  refine HI.out.mono ?_
  intro e w1 hh
  obtain ⟨v, he, hv, b1⟩ := hh
  subst he
  have HV := Lib.hid hv
  have B1 := Lib.hid b1
  have T1 : Hid (Tabs w1) := HK.out.below b1
  clear hv b1 HI
  go_wp2_with fail
  refine (firstAlike_any w1 T1.out v ls HV.out hl HS.out).mono ?_
  intro e w2 hh
  obtain ⟨hr, b2⟩ := hh
  have B2 := Lib.hid (below_size B1.out b2)
  clear b2
  rcases hr with ⟨h1, he⟩ | ⟨j, i, a, b, h1, he, h2, h3⟩
  · subst he
    have H1 := Lib.hid h1
    clear h1
    go_wp2_with fail
    exact bodyPost_ret (results_tmp3 rfl _ _ _) rfl ⟨.inl ⟨H1.out, rfl⟩, B2.out⟩
  · subst he
    have H1 := Lib.hid h1
    have H2 := Lib.hid h2
    have H3 := Lib.hid h3
    clear h1
    obtain ⟨_, _, rfl, _⟩ := h2
    obtain ⟨_, _, rfl, _⟩ := h3
    go_wp2_with fail
    exact bodyPost_ret (results_tmp3 rfl _ _ _) rfl ⟨.inr ⟨j, i, _, _, H1.out, rfl, H2.out, H3.out⟩, B2.out⟩
theorem Alike_keep (w0 w : World) (g n : Nat) (ls : List (List UInt8)) (hk : MeetK w0 g n ls w) (hl : ls.length ≤ 1000000) (hs : ∀ l ∈ ls, l.length ≤ 1000000) :
    Calls Tryd.prog 26 #[.pointer (some ⟨g, 0, none⟩)] w fun e w' => AlRet ls e w' ∧ Below w.heap.size w w' :=
  Alike_of w _ ls hk.tabs (Inputs_keep w0 w g n ls hk hl hs) ⟨_, rfl⟩ hl hs
theorem Alike_none (w : World) (ht : Tabs w) (g n : Nat) (hr : RowAt w g 83 (meterC false n (.slice none 0 0))) :
    Calls Tryd.prog 26 #[.pointer (some ⟨g, 0, none⟩)] w fun e w' => AlRet [] e w' ∧ Below w.heap.size w w' :=
  Alike_of w _ [] ht (Inputs_none w g n hr) ⟨_, rfl⟩ (by simp) (by simp)
theorem Alike_nil (w : World) (ht : Tabs w) :
    Calls Tryd.prog 26 #[.pointer none] w fun e w' => AlRet [] e w' ∧ Below w.heap.size w w' :=
  Alike_of w _ [] ht ((Inputs_nil w).mono fun e w' h => ⟨_, h.1, ⟨none, 0, rfl, Nat.le_refl _, by simp [maxLen], fun h => absurd h (by simp)⟩, by rw [← h.2]; exact Below.refl _ _⟩) ⟨_, rfl⟩ (by simp) (by simp)
theorem Count_nil (w : World) : Calls Tryd.prog 24 #[.pointer none] w fun e w' => e = .returned (.int .i64 0) ∧ w = w' := by
  go_enter Tryd.func24, Tryd.ntmps24
  go_wp2
  go_ret
  exact ⟨rfl, rfl⟩
theorem Load_any (w : World) (g n : Nat) (hc : w.cell? ⟨g, 1, none⟩ = some (.int .i64 (n : Int))) :
    Calls Tryd.prog 47 #[.pointer (some ⟨g, 1, none⟩)] w fun e w' => e = .returned (.int .i64 (n : Int)) ∧ w = w' := by
  have hld := run_call_load (P := Tryd.prog) Tryd.func66 (by kernel_rfl) (by kernel_rfl) (by kernel_rfl) .i64 (by kernel_rfl) hc
  go_enter Tryd.func47, Tryd.ntmps47
  go_wp2
  go_ret
  exact ⟨rfl, rfl⟩
theorem Count_row (w : World) (g n : Nat) (cs : Array Value) (hr : RowAt w g 83 cs) (hc : cs[1]? = some (.int .i64 (n : Int))) :
    Calls Tryd.prog 24 #[.pointer (some ⟨g, 0, none⟩)] w fun e w' => e = .returned (.int .i64 (n : Int)) ∧ w = w' := by
  have c1 : w.cell? ⟨g, 1, none⟩ = some (.int .i64 (n : Int)) := by rw [hr.cell]; exact hc
  have HL := Lib.hid (Load_any w g n c1)
  clear hr hc c1
  go_enter Tryd.func24, Tryd.ntmps24
  go_wp2_with fail
  refine HL.out.mono ?_
  intro e w1 hh
  obtain ⟨he, hw⟩ := hh
  subst he hw
  go_wp2_with fail
  go_ret
  exact ⟨rfl, rfl⟩
end Go.Proofs.YtckpnkohaaebdaaDoor
end
section
namespace Go.Proofs.YtckpnkohaaebdaaDoor
open Go.RowKit
set_option linter.unusedVariables false
set_option maxRecDepth 20000

def blockK (key : List UInt8) : List UInt8 := fillB (if 64 < key.length then digestB key else key) 64
def mixB (block : List UInt8) (x : UInt8) : List UInt8 := block.map (· ^^^ x)
def macB (key msg : List UInt8) : List UInt8 := digestB (mixB (blockK key) 92 ++ digestB (mixB (blockK key) 54 ++ msg))
theorem blockK_length (key : List UInt8) : (blockK key).length = 64 := by
  unfold blockK
  apply fillB_length
  split
  · rw [digestB_length]; omega
  · omega
theorem mixB_length (b : List UInt8) (x : UInt8) : (mixB b x).length = b.length := by simp [mixB]
theorem macB_length (key msg : List UInt8) : (macB key msg).length = 32 := digestB_length _

theorem grown_refl (w : World) (a : Option Nat) : w.grownBy w a := ⟨rfl, rfl, rfl, Nat.le_refl _, fun _ _ _ => rfl⟩
theorem grown_trans {w x y : World} {a : Option Nat} (h : w.grownBy x a) (k : x.grownBy y a) : w.grownBy y a :=
  ⟨k.os.trans h.os, k.tape.trans h.tape, k.output.trans h.output, Nat.le_trans h.size k.size, fun i hi h1 => (k.block i (Nat.lt_of_lt_of_le hi h.size) h1).trans (h.block i hi h1)⟩
theorem grown_below {w x : World} (a : Option Nat) (h : Below w.heap.size w x) : w.grownBy x a := ⟨h.os, h.tape, h.output, h.size, fun k hk _ => h.block k hk⟩

/-- From w to x with a Meter at g that keeps nothing and was made behind w0: it has counted n; all else that was there at w is as it was. -/
structure Run (w0 w : World) (g n : Nat) (x : World) : Prop where
  below : Below w0.heap.size w0 x
  row : RowAt x g 83 (meterC false n (.slice none 0 0))
  tabs0 : Tabs w0
  far : w0.heap.size ≤ g
  old : w0.heap.size ≤ w.heap.size
  row0 : ∃ n0, RowAt w g 83 (meterC false n0 (.slice none 0 0))
  grown : w.grownBy x (some g)
theorem Run.tabs {w0 w x : World} {g n : Nat} (h : Run w0 w g n x) : Tabs x := h.tabs0.below h.below
theorem Run.self {w0 w x : World} {g n : Nat} (h : Run w0 w g n x) : Run w0 x g n x := ⟨h.below, h.row, h.tabs0, h.far, h.below.size, ⟨n, h.row⟩, grown_refl _ _⟩
theorem Run.new {w0 w x : World} {g : Nat} (ht : Tabs w0) (hb : Below w0.heap.size w0 w) (h : NewRow w g 83 (meterC false 0 (.slice none 0 0)) x) : Run w0 x g 0 x :=
  ⟨below_size hb h.below, h.row, ht, by rw [h.spot]; exact hb.size, (below_size hb h.below).size, ⟨0, h.row⟩, grown_refl _ _⟩
theorem Run.kept {w0 w x y : World} {g n : Nat} (h : Run w0 w g n x) (hb : Below x.heap.size x y) : Run w0 w g n y :=
  ⟨below_size h.below hb, h.row.kept hb, h.tabs0, h.far, h.old, h.row0, grown_trans h.grown (grown_below _ hb)⟩
theorem Run.trans {w0 w x y : World} {g n m : Nat} (h : Run w0 w g n x) (k : Run w0 x g m y) : Run w0 w g m y :=
  ⟨k.below, k.row, h.tabs0, h.far, h.old, h.row0, grown_trans h.grown k.grown⟩
theorem Run.put {w0 w x y : World} {g n i : Nat} {t : TypeId} {cs : Array Value} (h : Run w0 w g n x) (p : PutRow x i t cs y) (hi : w.heap.size ≤ i) (hg : i ≠ g) : Run w0 w g n y :=
  ⟨p.below h.below h.below.size (Nat.le_trans h.old hi), h.row.grown p.grown (by intro e; injection e with e; exact hg e.symm), h.tabs0, h.far, h.old, h.row0,
    ⟨p.grown.os.trans h.grown.os, p.grown.tape.trans h.grown.tape, p.grown.output.trans h.grown.output, Nat.le_trans h.grown.size p.grown.size, fun k hk h1 => (p.grown.block k (Nat.lt_of_lt_of_le hk h.grown.size) (by intro e; injection e with e; omega)).trans (h.grown.block k hk h1)⟩⟩
theorem Run.other {w0 w x : World} {g n k : Nat} {t : TypeId} {cs : Array Value} (h : Run w0 w g n x) (hr : RowAt w k t cs) (hk : k ≠ g) : RowAt x k t cs := hr.grown h.grown (by intro e; injection e with e; exact hk e)
theorem Run.bs {w0 w x : World} {g n : Nat} {v : Value} {l : List UInt8} (h : Run w0 w g n x) (hv : Bs w v l) : Bs x v l := by
  obtain ⟨n0, h0⟩ := h.row0
  exact hv.meter h0 h.grown
theorem Run.size {w0 w x : World} {g n : Nat} (h : Run w0 w g n x) : w.heap.size ≤ x.heap.size := h.grown.size
theorem Run.glt {w0 w x : World} {g n : Nat} (h : Run w0 w g n x) : g < w.heap.size := by
  obtain ⟨n0, h0⟩ := h.row0
  exact h0.lt

theorem Sum_run (w0 w : World) (g n : Nat) (v : Value) (ls : List (List UInt8)) (d : List UInt8) (h : Run w0 w g n w) (hn : n ≤ 1000000000) (hd : d = digestB ls.flatten) (hb : Bss w v ls) (hl : ls.flatten.length ≤ 1000000) (hm : ls.length ≤ 1000000) :
    Calls Tryd.prog 21 #[.pointer (some ⟨g, 0, none⟩), v] w fun e w' => e = .returned (.agg (keyC d)) ∧ Run w0 w g (n + 1) w' := by
  refine (Sum_is w h.tabs g n _ v ls d hd hn h.row hb hl hm).mono fun e w' hp => ?_
  obtain ⟨he, hr, hg⟩ := hp
  exact ⟨he, h.below.grown hg h.below.size (fun k e => by injection e with e; rw [← e]; exact h.far), hr, h.tabs0, h.far, h.old, ⟨n, h.row⟩, hg⟩

theorem zb64_fill (key : List UInt8) (h : key.length ≤ 64) : zb64.take 0 ++ key ++ zb64.drop (0 + key.length) = fillB key 64 := by
  rw [List.take_zero, List.nil_append, Nat.zero_add, zb64, List.drop_replicate, fillB]
theorem zb_copied {w : World} {g : Nat} {t : TypeId} {key : List UInt8} (h : key.length ≤ 64) (hr : w.heap[g]? = some (.cells (splice (cellsB zb64) 0 (cellsB key)).toArray t (0, 0))) : RowAt w g t (keyC (fillB key 64)) := by
  rw [splice_bytes, zb64_fill key h] at hr
  exact hr

set_option maxHeartbeats 1000000 in
theorem keyBlock_short (w : World) (p v : Value) (key : List UInt8) (hb : Bs w v key) (hk : key.length ≤ 64) :
    Calls Tryd.prog 52 #[p, v] w (RetV w (.agg (keyC (fillB key 64)))) := by
  have HB := Lib.hid hb
  obtain ⟨A, c, rfl, h1, h2, h3⟩ := hb
  unfold maxLen at h2
  have d1 : decide ((64 : Int) < (key.length : Int)) = false := by simp; omega
  have HL := Lib.hid (fillB_length key 64 hk)
  clear h3
  go_enter Tryd.func52, Tryd.ntmps52
  go_wp2_with (first
    | ((with_reducible refine wpList_alloc_row (o := ⟨some 4, _, _, _, _, _⟩) rfl 24 rfl (keyC zb64) Tryd.zeroB64 ?_); intro g1 w1 n1)
    | ((with_reducible refine wpList_alloc_row (o := ⟨some 6, _, _, _, _, _⟩) rfl 24 rfl (keyC zb64) Tryd.zeroB64 ?_); intro g2 w2 n2)
    | ((with_reducible refine wpList_copy_splice (o := ⟨some 17, _, _, _, _, _⟩) rfl (.tmp 15) (.tmp 16) 27 27 rfl 5 Tryd.underlying27 Tryd.sizeB (some ⟨g2, 0, none⟩) A 64 64 key.length c (by with_unfolding_all rfl) (by with_unfolding_all rfl) g2 0 (cellsB zb64) 24 (by with_unfolding_all exact n2.row) (cellsB key) (by rw [cellsB_length]; exact (Nat.min_eq_left hk).symm) (copy_from ((HB.out.below n1.below).below n2.below)) (by rw [cellsB_length, cellsB_length, zb64_length]; omega) (cellsB_one key) w1.heap.size w1 n2.below (Nat.le_of_eq n2.spot.symm) ?_); (intro w3 hr3 hb3; have hr4 := zb_copied hk hr3.out))
    | (with_reducible refine wpList_load_row (o := ⟨some 18, _, _, _, _, _⟩) rfl 24 (.tmp 6) rfl g2 (by with_unfolding_all rfl) 24 (keyC (fillB key 64)) (0, 0) (.array 64 5) (by with_unfolding_all exact hr4) Tryd.underlying24 rfl (Tryd.size64b _ HL.out) ?_)
    | ((with_reducible refine wpList_store_row (o := ⟨none, _, _, _, _, _⟩) rfl 24 (.tmp 4) (.tmp 18) rfl g1 24 _ (keyC (fillB key 64)) (by with_unfolding_all rfl) (by with_unfolding_all rfl) (n1.row.kept hb3) (by rw [keyC_size, keyC_size, zb64_length, HL.out]) (Tryd.size64b _ HL.out) (keyC_one _) ?_); intro w4 p4))
  refine bodyPost_ret (results_cell_row rfl _ _ g1 24 (keyC (fillB key 64)) (0, 0) (.array 64 5) rfl p4.row Tryd.underlying24 rfl (Tryd.size64b _ HL.out)) rfl ⟨rfl, ?_⟩
  exact p4.below (below_size n1.below hb3) (by have := n1.below.size; have := hb3.size; omega) (by rw [n1.spot]; exact Nat.le_refl _)

set_option maxHeartbeats 1000000 in
theorem keyBlock_long (w0 w : World) (g n : Nat) (v : Value) (key : List UInt8) (h : Run w0 w g n w) (hn : n ≤ 1000000000) (hb : Bs w v key) (hk : 64 < key.length) (hk2 : key.length ≤ 100000) :
    Calls Tryd.prog 52 #[.pointer (some ⟨g, 0, none⟩), v] w fun e w' => e = .returned (.agg (keyC (fillB (digestB key) 64))) ∧ Run w0 w g (n + 1) w' := by
  have HB := Lib.hid hb
  have HR := Lib.hid h
  have hgl := h.glt
  obtain ⟨d, hd⟩ : ∃ d, d = digestB [key].flatten := ⟨_, rfl⟩
  have hdk : digestB key = d := by rw [hd]; simp
  rw [hdk]
  have LD : Hid (d.length = 32) := by show _ = _; rw [hd, digestB_length]
  have HD := Lib.hid hd
  obtain ⟨A, c, rfl, h1, h2, h3⟩ := hb
  unfold maxLen at h2
  have d1 : decide ((64 : Int) < (key.length : Int)) = true := by simp; omega
  have HL : Hid ((fillB d 64).length = 64) := fillB_length d 64 (by rw [LD.out]; omega)
  clear h h3 hd hdk
  go_enter Tryd.func52, Tryd.ntmps52
  go_wp2_with ((with_reducible refine wpList_alloc_row (o := ⟨some 4, _, _, _, _, _⟩) rfl 24 rfl (keyC zb64) Tryd.zeroB64 ?_); intro g1 w1 n1)
  have R1 := Lib.hid (HR.out.kept n1.below)
  have Q1 := Lib.hid n1.row
  have hg1 : w.heap.size ≤ g1 := Nat.le_of_eq n1.spot.symm
  have hb1 := HB.out.below n1.below
  clear n1 HR
  refine (Sum_run w0 _ g n _ [key] d (by exact (R1.out.kept (alloc_below _ _)).self) hn HD.out (by exact Bss.one _ _ _ _ hb1) (by simp; omega) (by simp)).mono ?_
  intro e w2 h
  obtain ⟨he, r2⟩ := h
  subst he
  have R2 := Lib.hid ((R1.out.kept (alloc_below _ _)).trans r2)
  have Q2 := Lib.hid (r2.other (Q1.out.kept (alloc_below _ _)) (by omega))
  clear r2 R1 Q1 hb1
  go_wp2_with (first
    | ((with_reducible refine wpList_alloc_row (o := ⟨some 5, _, _, _, _, _⟩) rfl 33 rfl (keyC zeroKey) Tryd.zeroK ?_); intro g3 w3 n3)
    | ((with_reducible refine wpList_store_row (o := ⟨none, _, _, _, _, _⟩) rfl 33 (.tmp 5) (.tmp 13) rfl g3 33 _ (keyC d) (by with_unfolding_all rfl) (by with_unfolding_all rfl) n3.row (keyC_same zeroKey_length LD.out) (Tryd.sizeKey d LD.out) (keyC_one d) ?_); intro w4 p4)
    | ((with_reducible refine wpList_alloc_row (o := ⟨some 6, _, _, _, _, _⟩) rfl 24 rfl (keyC zb64) Tryd.zeroB64 ?_); intro g5 w5 n5)
    | ((with_reducible refine wpList_copy_splice (o := ⟨some 17, _, _, _, _, _⟩) rfl (.tmp 15) (.tmp 16) 27 27 rfl 5 Tryd.underlying27 Tryd.sizeB (some ⟨g5, 0, none⟩) (some ⟨g3, 0, none⟩) 64 64 32 32 (by with_unfolding_all rfl) (by with_unfolding_all rfl) g5 0 (cellsB zb64) 24 (by with_unfolding_all exact n5.row) (cellsB d) (by rw [cellsB_length, LD.out]; exact (Nat.min_eq_left (by omega)).symm) (copy_from ((row32 p4.row LD.out).below n5.below)) (by rw [cellsB_length, cellsB_length, zb64_length, LD.out]; omega) (cellsB_one d) w4.heap.size w4 n5.below (Nat.le_of_eq n5.spot.symm) ?_); (intro w6 hr6 hb6; have hr7 := zb_copied (by rw [LD.out]; omega) hr6.out; have R6 := Lib.hid ((R2.out.kept (laid_put n3 p4).1).kept hb6); have Q6 := Lib.hid ((Q2.out.kept (laid_put n3 p4).1).kept hb6)))
    | (with_reducible refine wpList_load_row (o := ⟨some 18, _, _, _, _, _⟩) rfl 24 (.tmp 6) rfl g5 (by with_unfolding_all rfl) 24 (keyC (fillB d 64)) (0, 0) (.array 64 5) (by with_unfolding_all exact hr7) Tryd.underlying24 rfl (Tryd.size64b _ HL.out) ?_)
    | ((with_reducible refine wpList_store_row (o := ⟨none, _, _, _, _, _⟩) rfl 24 (.tmp 4) (.tmp 18) rfl g1 24 _ (keyC (fillB d 64)) (by with_unfolding_all rfl) (by with_unfolding_all rfl) Q6.out (by rw [keyC_size, keyC_size, zb64_length, HL.out]) (Tryd.size64b _ HL.out) (keyC_one _) ?_); intro w7 p7))
  refine bodyPost_ret (results_cell_row rfl _ _ g1 24 (keyC (fillB d 64)) (0, 0) (.array 64 5) rfl p7.row Tryd.underlying24 rfl (Tryd.size64b _ HL.out)) rfl ⟨rfl, ?_⟩
  exact R6.out.put p7 hg1 (by omega)

theorem keyBlock_any (w0 w : World) (g n : Nat) (v : Value) (key : List UInt8) (h : Run w0 w g n w) (hn : n ≤ 1000000000) (hb : Bs w v key) (hk2 : key.length ≤ 100000) :
    Calls Tryd.prog 52 #[.pointer (some ⟨g, 0, none⟩), v] w fun e w' => ∃ n', n' ≤ n + 1 ∧ e = .returned (.agg (keyC (blockK key))) ∧ Run w0 w g n' w' := by
  by_cases hk : 64 < key.length
  · rw [blockK, if_pos hk]
    exact (keyBlock_long w0 w g n v key h hn hb hk hk2).mono fun _ _ hp => ⟨n + 1, Nat.le_refl _, hp⟩
  · rw [blockK, if_neg hk]
    exact (keyBlock_short w _ v key hb (by omega)).mono fun _ _ hp => ⟨n, by omega, hp.1, h.kept hp.2⟩

def partMix (b : List UInt8) (x : UInt8) (k : Nat) : List UInt8 := mixB (b.take k) x ++ b.drop k
theorem partMix_length (b : List UInt8) (x : UInt8) (k : Nat) (h : k ≤ b.length) : (partMix b x k).length = b.length := by simp [partMix, mixB]; omega
theorem partMix_get (b : List UInt8) (x : UInt8) (k : Nat) (h : k < b.length) : (partMix b x k).getD k 0 = b.getD k 0 := by
  simp only [partMix, List.getD_eq_getElem?_getD]
  rw [List.getElem?_append_right (by simp [mixB]; omega)]
  simp [mixB, Nat.min_eq_left (Nat.le_of_lt h)]
theorem partMix_step (b : List UInt8) (x : UInt8) (k : Nat) (h : k < b.length) : (partMix b x k).set k (b.getD k 0 ^^^ x) = partMix b x (k + 1) := by
  have e1 : (mixB (b.take k) x).length = k := by simp [mixB]; omega
  unfold partMix
  rw [List.set_append_right _ _ (by rw [e1]; exact Nat.le_refl _), e1, Nat.sub_self, List.drop_eq_getElem_cons h, List.set_cons_zero]
  have e2 := List.take_succ_eq_append_getElem (l := b.map (· ^^^ x)) (i := k) (by simpa using h)
  simp only [mixB, List.map_take]
  rw [e2, List.append_assoc]
  simp [List.getD_eq_getElem?_getD, h]
theorem partMix_all (b : List UInt8) (x : UInt8) (n : Nat) (h : b.length = n) : partMix b x n = mixB b x := by
  rw [← h]; simp [partMix, mixB]

set_option maxHeartbeats 1000000 in
theorem mixed_any (w : World) (b : List UInt8) (x : UInt8) (hl : b.length = 64) :
    Calls Tryd.prog 53 #[.agg (keyC b), .int .u8 (x.toNat : Int)] w (RetBs w (mixB b x)) := by
  have HL := Lib.hid hl
  have hx := x.toNat_lt
  clear hl
  go_enter Tryd.func53, Tryd.ntmps53
  go_wp2_with ((with_reducible refine wpList_box_row (o := ⟨some 2, _, _, _, _, _⟩) rfl 24 (.tmp 0) rfl (keyC b) (by with_unfolding_all rfl) ?_); intro g1 w1 n1)
  have hg1 : w.heap.size ≤ g1 := Nat.le_of_eq n1.spot.symm
  have R1 : Hid (RowAt w1 g1 24 (keyC (partMix b x 0))) := by
    have := n1.row
    rwa [show b = partMix b x 0 by simp [partMix, mixB]] at this
  have B1 := Lib.hid n1.below
  clear n1
  go_loopw [6] (fun i wr => ∃ k : Nat, k ≤ 64 ∧ i = .int .i64 k ∧ RowAt wr g1 24 (keyC (partMix b x k)) ∧ Below w.heap.size w wr) (fun i _ => 64 - (intOf i).toNat)
  case atStart => exact ⟨0, by omega, rfl, R1.out, B1.out⟩
  case round =>
    clear R1 B1
    obtain ⟨k, hk, rfl, hr, hb⟩ := hrel
    have R1 := Lib.hid hr
    have HB := Lib.hid hb
    clear hr hb
    by_cases hlt : k < 64
    · have hpl := partMix_length b x k (by rw [HL.out]; omega)
      have hc := bytesC_cellD R1.out k (by rw [hpl, HL.out]; exact hlt)
      rw [partMix_get b x k (by rw [HL.out]; exact hlt)] at hc
      have hfz := R1.out.frozen k
      have hput := R1.out.put k (.int .u8 ((b.getD k 0 ^^^ x).toNat : Int))
      rw [bytesC_put, partMix_step b x k (by rw [HL.out]; exact hlt)] at hput
      have HP := Lib.hid hput
      generalize b.getD k 0 = y at hc HP
      have hq : (k : Int) < 64 := by omega
      clear hput hpl
      go_wp2_with fail
      go_roundw
      case rel => exact ⟨k + 1, by omega, by go_num, by rw [xor_byte]; exact HP.out, HB.out.setCell hg1 _⟩
      case measure => simp [intOf]; omega
    · have hk64 : k = 64 := by omega
      have R2 : Hid (RowAt wr g1 24 (keyC (mixB b x))) := by
        have := R1.out
        rw [hk64, partMix_all b x 64 HL.out] at this
        exact this
      clear hk64 R1
      go_wp2
      go_ret
      refine ⟨_, rfl, ?_, HB.out⟩
      have h := row_bs R2.out (by rw [mixB_length, HL.out]; unfold maxLen; omega)
      rwa [mixB_length, HL.out] at h
end Go.Proofs.YtckpnkohaaebdaaDoor
end
section
namespace Go.Proofs.YtckpnkohaaebdaaDoor
open Go.RowKit
set_option linter.unusedVariables false
set_option maxRecDepth 20000

theorem Bss.run {w0 w x : World} {g n b off c k : Nat} {ls : List (List UInt8)} (h : Run w0 w g n x) (hv : Bss w (.slice (some ⟨b, off, none⟩) k c) ls) (hb : b ≠ g) : Bss x (.slice (some ⟨b, off, none⟩) k c) ls := by
  obtain ⟨A, c', he, h1, h2, h3⟩ := hv
  refine ⟨A, c', he, h1, h2, fun hl => ?_⟩
  obtain ⟨b', off', hA, hc⟩ := h3 hl
  injection he with e1 e2 e3
  rw [hA] at e1
  injection e1 with e1
  injection e1 with e1 e4 e5
  subst e1 e4
  refine ⟨b, off, hA, fun j hj => ?_⟩
  obtain ⟨u, hu, hbu⟩ := hc j hj
  exact ⟨u, (World.cell?_of_block (a := ⟨b, off + j, none⟩) (h.grown.block b (World.block_lt_of_cell? w _ hu) (by intro e; injection e with e; exact hb e))).trans hu, h.bs hbu⟩
/-- The values that a list of lists holds. -/
theorem Bss.vals {w : World} {b off c k : Nat} {ls : List (List UInt8)} (hv : Bss w (.slice (some ⟨b, off, none⟩) k c) ls) (h0 : 0 < ls.length) :
    ∃ vs : List Value, vs.length = ls.length ∧ (∀ j (h : j < vs.length), w.cell? ⟨b, off + j, none⟩ = some vs[j]) ∧ ∀ j (h1 : j < vs.length) (h2 : j < ls.length), Bs w vs[j] ls[j] := by
  obtain ⟨A, c', he, h1, h2, h3⟩ := hv
  obtain ⟨b', off', hA, hc⟩ := h3 h0
  injection he with e1 e2 e3
  rw [hA] at e1
  injection e1 with e1
  injection e1 with e1 e4 e5
  subst e1 e4
  refine ⟨List.ofFn fun j : Fin ls.length => (hc j.val j.isLt).choose, by simp, fun j h => ?_, fun j a b => ?_⟩
  · simp only [List.getElem_ofFn]
    exact (hc j (by simpa using h)).choose_spec.1
  · simp only [List.getElem_ofFn]
    exact (hc j (by simpa using a)).choose_spec.2
theorem Bs.isSlice {w : World} {v : Value} {l : List UInt8} (h : Bs w v l) : v.oneCell' = true := by
  obtain ⟨A, c, rfl, _⟩ := h
  rfl

set_option maxHeartbeats 4000000 in
theorem macSum_any (w0 w : World) (g n : Nat) (vk : Value) (key : List UInt8) (b off c : Nat) (ls : List (List UInt8)) (h : Run w0 w g n w) (hn : n ≤ 100000000) (hk : Bs w vk key) (hk2 : key.length ≤ 100000)
    (hv : Bss w (.slice (some ⟨b, off, none⟩) ls.length c) ls) (hbg : b ≠ g) (h0 : 0 < ls.length) (hl : ls.flatten.length ≤ 100000) (hm : ls.length ≤ 1000) :
    Calls Tryd.prog 31 #[.pointer (some ⟨g, 0, none⟩), vk, .slice (some ⟨b, off, none⟩) ls.length c] w fun e w' => ∃ n', n' ≤ n + 3 ∧ e = .returned (.agg (keyC (macB key ls.flatten))) ∧ Run w0 w g n' w' := by
  obtain ⟨i0, hi, hz0, hz1, hz2⟩ := info_parts Tryd.infoS
  have HR := Lib.hid h
  have HV := Lib.hid hv
  have HKC := Lib.hid hk
  have hgl := h.glt
  obtain ⟨blk, hblk⟩ : ∃ blk, blk = blockK key := ⟨_, rfl⟩
  have LB : Hid (blk.length = 64) := by show _ = _; rw [hblk, blockK_length]
  have HKB : Hid (∀ x m, Run w0 x g m x → m ≤ 1000000000 → Bs x vk key → Calls Tryd.prog 52 #[.pointer (some ⟨g, 0, none⟩), vk] x fun e w' => ∃ n', n' ≤ m + 1 ∧ e = .returned (.agg (keyC blk)) ∧ Run w0 x g n' w') := fun x m hr hm hb => by rw [hblk]; exact keyBlock_any w0 x g m vk key hr hm hb hk2
  obtain ⟨m1, hm1⟩ : ∃ m1, m1 = mixB blk 54 := ⟨_, rfl⟩
  obtain ⟨m2, hm2⟩ : ∃ m2, m2 = mixB blk 92 := ⟨_, rfl⟩
  have L1 : m1.length = 64 := by rw [hm1, mixB_length, LB.out]
  have L2 : m2.length = 64 := by rw [hm2, mixB_length, LB.out]
  have HM1 : Hid (∀ x, Calls Tryd.prog 53 #[.agg (keyC blk), .int .u8 54] x (RetBs x m1)) := fun x => by rw [hm1]; exact mixed_any x blk 54 LB.out
  have HM2 : Hid (∀ x, Calls Tryd.prog 53 #[.agg (keyC blk), .int .u8 92] x (RetBs x m2)) := fun x => by rw [hm2]; exact mixed_any x blk 92 LB.out
  obtain ⟨d1, hd1⟩ : ∃ d, d = digestB ([m1] ++ ls).flatten := ⟨_, rfl⟩
  have LD1 : Hid (d1.length = 32) := by show _ = _; rw [hd1, digestB_length]
  obtain ⟨d2, hd2⟩ : ∃ d, d = digestB [m2, d1].flatten := ⟨_, rfl⟩
  have LD2 : Hid (d2.length = 32) := by show _ = _; rw [hd2, digestB_length]
  have hfin : macB key ls.flatten = d2 := by
    rw [hd2, hd1, hm1, hm2, hblk, macB]
    simp
  rw [hfin]
  have HD1 := Lib.hid hd1
  have HD2 := Lib.hid hd2
  have HL1 := Lib.hid L1
  have HL2 := Lib.hid L2
  have HI := Lib.hid hi
  have HZ0 := Lib.hid hz0
  have HZ1 := Lib.hid hz1
  have HZ2 := Lib.hid hz2
  obtain ⟨KA, KC, rfl, hk3, hk4, hk5⟩ := hk
  have hbl : b < w.heap.size := by
    obtain ⟨A, c', he, _, _, h3⟩ := hv
    obtain ⟨b', off', hA, hc⟩ := h3 h0
    injection he with e1 e2 e3
    rw [hA] at e1
    injection e1 with e1
    injection e1 with e1 e4 e5
    subst e1
    obtain ⟨u, hu, _⟩ := hc 0 h0
    exact World.block_lt_of_cell? w _ hu
  unfold maxLen at hk4
  clear h hv hk5 hblk hm1 hm2 L1 L2 hd1 hd2 hfin hi hz0 hz1 hz2
  go_enter Tryd.func31, Tryd.ntmps31
  go_wp2_with ((with_reducible refine wpList_alloc_row (o := ⟨some 6, _, _, _, _, _⟩) rfl 33 rfl (keyC zeroKey) Tryd.zeroK ?_); intro g1 w1 n1)
  have R1 := Lib.hid (HR.out.kept n1.below)
  have Q1 := Lib.hid n1.row
  have hg1 : w.heap.size ≤ g1 := Nat.le_of_eq n1.spot.symm
  have s1 := n1.below.size
  have V1 := Lib.hid (HV.out.keep n1.below)
  have K1 := HKC.out.below n1.below
  clear n1 HR HV HKC
  refine (HKB.out _ n R1.out.self (by omega) K1).mono ?_
  intro e w2 h
  obtain ⟨na, hna, he, r2⟩ := h
  subst he
  have R2 := Lib.hid (R1.out.trans r2)
  have Q2 := Lib.hid (r2.other Q1.out (by omega))
  have V2 := Lib.hid (Bss.run r2 V1.out hbg)
  have s2 := r2.size
  clear r2 R1 Q1 V1 K1 HKB
  go_wp2_with (first
    | ((with_reducible refine wpList_alloc_row (o := ⟨some 7, _, _, _, _, _⟩) rfl 24 rfl (keyC zb64) Tryd.zeroB64 ?_); intro g3 w3 n3)
    | ((with_reducible refine wpList_store_row (o := ⟨none, _, _, _, _, _⟩) rfl 24 (.tmp 7) (.tmp 11) rfl g3 24 _ (keyC blk) (by with_unfolding_all rfl) (by with_unfolding_all rfl) n3.row (by rw [keyC_size, keyC_size, zb64_length, LB.out]) (Tryd.size64b blk LB.out) (keyC_one blk) ?_); intro w4 p4)
    | (with_reducible refine wpList_load_row (o := ⟨some 13, _, _, _, _, _⟩) rfl 24 (.tmp 7) rfl g3 (by with_unfolding_all rfl) 24 (keyC blk) (0, 0) (.array 64 5) (by with_unfolding_all exact p4.row) Tryd.underlying24 rfl (Tryd.size64b blk LB.out) ?_))
  have b4 := (laid_put n3 p4).1
  have R4 := Lib.hid (R2.out.kept b4)
  have Q4 := Lib.hid (Q2.out.kept b4)
  have V4 := Lib.hid (V2.out.keep b4)
  have S4 := Lib.hid p4.row
  have h3g : g3 ≠ g := by have := n3.spot; have := R2.out.glt; have := s2; omega
  have h31 : g3 ≠ g1 := by have := n3.spot; have := Q2.out.lt; omega
  have s4 := b4.size
  have hg3 : w.heap.size ≤ g3 := by have := n3.spot; omega
  clear n3 p4 b4 R2 Q2 V2
  refine (HM1.out _).mono ?_
  intro e w5 h
  obtain ⟨u, he, hu, b5⟩ := h
  subst he
  have R5 := Lib.hid (R4.out.kept b5)
  have Q5 := Lib.hid (Q4.out.kept b5)
  have S5 := Lib.hid (S4.out.kept b5)
  have HU := Lib.hid hu
  obtain ⟨vs, hvl, hvc, hvb⟩ := (V4.out.keep b5).vals h0
  have HVC := Lib.hid hvc
  have HVB := Lib.hid hvb
  have HVL := Lib.hid hvl
  have s5 := b5.size
  obtain ⟨UA, uc, rfl, _, _, _⟩ := hu
  have HNW : Hid (∀ (j : Nat) x, vs[j]? = some x → (w5.alloc (.cells #[.slice UA m1.length uc] 27)).cell? ((⟨b, off, none⟩ : Addr).add j) = some x) := by
    intro j x hj
    have hj2 := (List.getElem?_eq_some_iff.1 hj).1
    have hadd : (⟨b, off, none⟩ : Addr).add j = ⟨b, off + j, none⟩ := by unfold Addr.add; split <;> simp_all
    rw [hadd, World.cell?_alloc_lt w5 _ _ (show b < w5.heap.size by omega), HVC.out j hj2, ← hj]
    simp [hj2]
  have HON : Hid (∀ x ∈ vs, x.oneCell' = true) := by
    intro x hx
    obtain ⟨j, hj, rfl⟩ := List.getElem_of_mem hx
    exact (HVB.out j hj (by rw [← HVL.out]; exact hj)).isSlice
  have OL : Hid ((w5.alloc (.cells #[.slice UA m1.length uc] 27)).ownsRow w5.heap.size 27 1 (.slice (some ⟨w5.heap.size, 0, none⟩) 1 1) 1 [.slice UA m1.length uc]) := World.ownsRow_lit w5 #[.slice UA m1.length uc] 1 (Nat.le_refl _) (by unfold maxLen; omega) rfl
  clear hvl hvc hvb b5 R4 Q4 S4 V4
  go_wp2_with (at_builtin; refine wpList_append_own _ rfl (.tmp 15) (.tmp 16) 38 rfl w5.heap.size 27 i0 (.slice none 0 0) 1 24 Tryd.underlying38 HI.out HZ0.out HZ1.out HZ2.out rfl (by decide) _ 1 [.slice UA m1.length uc] rfl OL.out ⟨b, off, none⟩ ls.length c vs rfl (by rw [HVL.out]; omega) HNW.out HON.out (by unfold maxLen; omega) (by omega) (by simp) ?_; intro v6 w6 own6 hg6 hnil6; clear hnil6)
  have hrow6 : ∀ k, Value.ownBlock (.slice (some ⟨w5.heap.size, 0, none⟩) 1 1) = some k → w5.heap.size ≤ k := fun k e => by
    have e2 : w5.heap.size = k := by simpa [Value.ownBlock] using e
    omega
  have b6 : Below w5.heap.size w5 w6 := (alloc_below w5 _).grown hg6 (alloc_below w5 _).size hrow6
  have R6 := Lib.hid (R5.out.kept b6)
  have Q6 := Lib.hid (Q5.out.kept b6)
  have S6 := Lib.hid (S5.out.kept b6)
  have hfl : ([m1] ++ ls).flatten.length = 64 + ls.flatten.length := by rw [List.flatten_append, List.length_append, show [m1].flatten = m1 by simp, HL1.out]
  have hone : ([m1] ++ ls).length = 1 + ls.length := by simp; omega
  have V6 : Hid (Bss w6 v6 ([m1] ++ ls)) := by
    refine Bss.own (xs := [.slice UA m1.length uc] ++ vs) (by rw [hone]; exact own6) (by simp [HVL.out]) fun j h1 h2 => ?_
    rcases j with _ | j
    · exact HU.out.below b6
    · exact (HVB.out j (by simpa using h1) (by simpa using h2)).below b6
  have s6 := b6.size
  clear own6 hg6 b6 HNW HON OL HVC HVB HVL HU R5 Q5 S5
  refine (Sum_run w0 w6 g na v6 ([m1] ++ ls) d1 R6.out.self (by omega) HD1.out V6.out (by rw [hfl]; omega) (by rw [hone]; omega)).mono ?_
  intro e w7 h
  obtain ⟨he, r7⟩ := h
  subst he
  have R7 := Lib.hid (R6.out.trans r7)
  have Q7 := Lib.hid (r7.other Q6.out (by omega))
  have S7 := Lib.hid (r7.other S6.out h3g)
  have s7 := r7.size
  clear r7 R6 Q6 S6 V6 hone hfl hrow6
  go_wp2_with (first
    | ((with_reducible refine wpList_alloc_row (o := ⟨some 8, _, _, _, _, _⟩) rfl 33 rfl (keyC zeroKey) Tryd.zeroK ?_); intro g8 w8 n8)
    | ((with_reducible refine wpList_store_row (o := ⟨none, _, _, _, _, _⟩) rfl 33 (.tmp 8) (.tmp 18) rfl g8 33 _ (keyC d1) (by with_unfolding_all rfl) (by with_unfolding_all rfl) n8.row (keyC_same zeroKey_length LD1.out) (Tryd.sizeKey d1 LD1.out) (keyC_one d1) ?_); intro w9 p9))
  have b9 := (laid_put n8 p9).1
  have R9 := Lib.hid (R7.out.kept b9)
  have Q9 := Lib.hid (Q7.out.kept b9)
  have S9 := Lib.hid (S7.out.kept b9)
  have T9 := Lib.hid p9.row
  have s9 := b9.size
  have hgg : g < w9.heap.size := by omega
  clear n8 p9 b9 R7 Q7 S7
  refine plain_region (S := fun W' => RowAt W' g3 24 (keyC blk)) (fin := fun j => j == 6) (by kernel_rfl) ?_
  have hS : RowAt w9.drew g3 24 (keyC blk) := S9.out
  have HW := Lib.hid ((Below.refl w9.heap.size w9).drew)
  clear S9
  change walkS _ _ _ _ _ _ 7 _ _ _
  refine walkS_take (i := 0) (oi := ⟨some 19, _, _, _, _, _⟩) (v := .pointer (some ⟨g, 0, none⟩)) rfl (by kernel_rfl) (by kernel_rfl) (fun _ _ _ h => h) _ _ _ _ (by kernel_rfl) (by kernel_rfl) (Or.inl ⟨by rfl, fun w' hS' => (by clear hS hS'; go_simp)⟩) hS ?_
  simp only [Act.put, List.setIfInBounds_toArray, List.set_cons_zero, List.set_cons_succ]
  refine walkS_take (i := 1) (oi := ⟨some 20, _, _, _, _, _⟩) (v := .agg (keyC blk)) rfl (by kernel_rfl) (by kernel_rfl) (fun _ _ _ h => h) _ _ _ _ (by kernel_rfl) (by kernel_rfl) (Or.inl ⟨by rfl, fun w' hS' => run_load_row _ (.tmp 7) rfl g3 rfl _ (keyC blk) (0, 0) (.array 64 5) hS' Tryd.underlying24 rfl (Tryd.size64b blk LB.out)⟩) hS ?_
  simp only [Act.put, List.setIfInBounds_toArray, List.set_cons_zero, List.set_cons_succ]
  refine walkS_take (i := 3) (oi := ⟨some 22, _, _, _, _, _⟩) (v := .slice (some ⟨g8, 0, none⟩) 32 32) rfl (by kernel_rfl) (by kernel_rfl) (fun _ _ _ h => h) _ _ _ _ (by kernel_rfl) (by kernel_rfl) (Or.inl ⟨by rfl, fun w' hS' => (by clear hS hS'; go_simp)⟩) hS ?_
  simp only [Act.put, List.setIfInBounds_toArray, List.set_cons_zero, List.set_cons_succ]
  refine walkS_only (i := 2) (o := ⟨some 21, _, _, _, _, _⟩) (by kernel_rfl) rfl rfl fun K hK => ?_
  have HS := Lib.hid hS
  clear hS
  go_simp
  refine (HM2.out _).mono ?_
  intro e w10 h
  obtain ⟨u2, he, hu2, b10⟩ := h
  subst he
  have hS : RowAt w10 g3 24 (keyC blk) := HS.out.kept b10
  have HW1 := Lib.hid (below_size HW.out b10)
  have HU2 := Lib.hid hu2
  obtain ⟨UA2, uc2, hu3, _, _, _⟩ := hu2
  subst hu3
  refine hK _ _ (.inr hS) ?_
  clear hK K b10 HS HW
  refine walkS_only (i := 4) (o := ⟨some 23, _, _, _, _, _⟩) (by kernel_rfl) rfl rfl fun K hK => ?_
  have HS := Lib.hid hS
  clear hS
  go_simp
  have hS := HS.out.kept (alloc_below w10 (.cells #[.slice UA2 m2.length uc2, .slice (some ⟨g8, 0, none⟩) 32 32] 27))
  have HW2 := Lib.hid (below_size HW1.out (alloc_below w10 (.cells #[.slice UA2 m2.length uc2, .slice (some ⟨g8, 0, none⟩) 32 32] 27)))
  have V2 : Hid (Bss (w10.alloc (.cells #[.slice UA2 m2.length uc2, .slice (some ⟨g8, 0, none⟩) 32 32] 27)) (.slice (some ⟨w10.heap.size, 0, none⟩) 2 2) [m2, d1]) := Bss.two _ _ _ _ _ _ HU2.out (row32 (T9.out.kept HW1.out) LD1.out)
  refine hK _ _ (.inr hS) ?_
  clear hK K HS HU2 HW1
  generalize w10.alloc (.cells #[.slice UA2 m2.length uc2, .slice (some ⟨g8, 0, none⟩) 32 32] 27) = w11 at *
  refine walkS_only (i := 5) (o := ⟨some 24, _, _, _, _, _⟩) (by kernel_rfl) rfl rfl fun K hK => ?_
  have HS := Lib.hid hS
  clear hS
  go_simp
  have R11 := Lib.hid (R9.out.kept HW2.out)
  have Q11 := Lib.hid (Q9.out.kept HW2.out)
  refine (Sum_run w0 w11 g (na + 1) _ [m2, d1] d2 R11.out.self (by omega) HD2.out V2.out (by simp [HL2.out, LD1.out]) (by simp)).mono ?_
  intro e w12 h
  obtain ⟨he, r12⟩ := h
  subst he
  have R12 := Lib.hid (R11.out.trans r12)
  have Q12 := Lib.hid (r12.other Q11.out (by omega))
  have hS := r12.other HS.out h3g
  refine hK _ _ (.inr hS) ?_
  clear hK K HS R11 Q11 V2 r12 hS
  refine walkS_only (i := 6) (o := ⟨none, _, _, _, _, _⟩) (by kernel_rfl) rfl rfl fun K hK => ?_
  refine wp_store_row 33 (.tmp 6) (.tmp 24) rfl g1 33 _ (keyC d2) rfl rfl Q12.out (keyC_same zeroKey_length LD2.out) (Tryd.sizeKey d2 LD2.out) (keyC_one d2) ?_
  intro w13 p13
  refine hK _ _ (.inl rfl) ?_
  clear hK K
  refine walkS_done (by kernel_rfl) ?_ _
  go_wp2_with fail
  refine bodyPost_ret (results_cell_row rfl _ _ g1 33 (keyC d2) (0, 0) (.array 32 5) rfl p13.row Tryd.underlying33 rfl (Tryd.sizeKey d2 LD2.out)) rfl ⟨na + 1 + 1, by omega, rfl, ?_⟩
  exact R12.out.put p13 hg1 (by omega)
end Go.Proofs.YtckpnkohaaebdaaDoor
end
section
namespace Go.Proofs.YtckpnkohaaebdaaDoor
open Go.RowKit
set_option linter.unusedVariables false
set_option maxRecDepth 20000

/-- What a Log that keeps nothing holds. -/
def logC (n : Nat) : Array Value := #[.bool false, .int .i64 (n : Int), .slice none 0 0]
theorem logC_put (n : Nat) : (logC n).setIfInBounds 1 (.int .i64 ((n : Int) + 1)) = logC (n + 1) := by
  simp [logC]

theorem Bs.log {w w' : World} {v : Value} {l : List UInt8} {g n : Nat} {t : TypeId} (h : Bs w v l) (hr : RowAt w g t (logC n)) (hg : w.grownBy w' (some g)) : Bs w' v l := by
  obtain ⟨B, d, rfl, h1, h2, h3⟩ := h
  refine ⟨B, d, rfl, h1, h2, fun h0 => ?_⟩
  obtain ⟨b, off, hA, hc⟩ := h3 h0
  refine ⟨b, off, hA, fun j hj => ?_⟩
  have hcj := hc j hj
  have hb : b ≠ g := by
    intro e
    subst e
    rw [hr.cell] at hcj
    simp only [logC] at hcj
    rcases hx : off + j with _ | _ | _ | m <;> rw [hx] at hcj <;> simp at hcj
  exact (World.cell?_of_block (a := ⟨b, off + j, none⟩) (hg.block _ (World.block_lt_of_cell? w _ hcj) (by intro e; injection e with e; exact hb e))).trans hcj

/-- From w to x with a Log at g that keeps nothing and was made behind w0: it has counted n; all else that was there at w is as it was. -/
structure LogR (w0 w : World) (g n : Nat) (x : World) : Prop where
  below : Below w0.heap.size w0 x
  row : RowAt x g 41 (logC n)
  far : w0.heap.size ≤ g
  old : w0.heap.size ≤ w.heap.size
  row0 : ∃ n0, RowAt w g 41 (logC n0)
  grown : w.grownBy x (some g)
theorem LogR.self {w0 w x : World} {g n : Nat} (h : LogR w0 w g n x) : LogR w0 x g n x := ⟨h.below, h.row, h.far, h.below.size, ⟨n, h.row⟩, grown_refl _ _⟩
theorem LogR.new {w0 x : World} {g n : Nat} (hb : Below w0.heap.size w0 x) (h : RowAt x g 41 (logC n)) (hf : w0.heap.size ≤ g) : LogR w0 x g n x :=
  ⟨hb, h, hf, hb.size, ⟨n, h⟩, grown_refl _ _⟩
theorem LogR.kept {w0 w x y : World} {g n : Nat} (h : LogR w0 w g n x) (hb : Below x.heap.size x y) : LogR w0 w g n y :=
  ⟨below_size h.below hb, h.row.kept hb, h.far, h.old, h.row0, grown_trans h.grown (grown_below _ hb)⟩
theorem LogR.trans {w0 w x y : World} {g n m : Nat} (h : LogR w0 w g n x) (k : LogR w0 x g m y) : LogR w0 w g m y :=
  ⟨k.below, k.row, h.far, h.old, h.row0, grown_trans h.grown k.grown⟩
theorem LogR.put {w0 w x y : World} {g n i : Nat} {t : TypeId} {cs : Array Value} (h : LogR w0 w g n x) (p : PutRow x i t cs y) (hi : w.heap.size ≤ i) (hg : i ≠ g) : LogR w0 w g n y :=
  ⟨p.below h.below h.below.size (Nat.le_trans h.old hi), h.row.grown p.grown (by intro e; injection e with e; exact hg e.symm), h.far, h.old, h.row0,
    ⟨p.grown.os.trans h.grown.os, p.grown.tape.trans h.grown.tape, p.grown.output.trans h.grown.output, Nat.le_trans h.grown.size p.grown.size, fun k hk h1 => (p.grown.block k (Nat.lt_of_lt_of_le hk h.grown.size) (by intro e; injection e with e; omega)).trans (h.grown.block k hk h1)⟩⟩
theorem LogR.count {w0 w x : World} {g n : Nat} (h : LogR w0 w g n x) : LogR w0 w g (n + 1) (x.setCell ⟨g, 1, none⟩ (.int .i64 ((n : Int) + 1))) := by
  have hp := h.row.put 1 (.int .i64 ((n : Int) + 1))
  rw [logC_put] at hp
  exact ⟨h.below.setCell h.far _, hp, h.far, h.old, h.row0, grown_trans h.grown ⟨rfl, rfl, rfl, by simp, fun k _ hne => heap_setCell_other x _ k _ (fun h => hne (by rw [h]))⟩⟩
theorem LogR.other {w0 w x : World} {g n k : Nat} {t : TypeId} {cs : Array Value} (h : LogR w0 w g n x) (hr : RowAt w k t cs) (hk : k ≠ g) : RowAt x k t cs := hr.grown h.grown (by intro e; injection e with e; exact hk e)
theorem LogR.bs {w0 w x : World} {g n : Nat} {v : Value} {l : List UInt8} (h : LogR w0 w g n x) (hv : Bs w v l) : Bs x v l := by
  obtain ⟨n0, h0⟩ := h.row0
  exact hv.log h0 h.grown
theorem LogR.size {w0 w x : World} {g n : Nat} (h : LogR w0 w g n x) : w.heap.size ≤ x.heap.size := h.grown.size
theorem LogR.glt {w0 w x : World} {g n : Nat} (h : LogR w0 w g n x) : g < w.heap.size := by
  obtain ⟨n0, h0⟩ := h.row0
  exact h0.lt

set_option maxHeartbeats 1000000 in
theorem LogSum_run (w0 w : World) (g n : Nat) (v : Value) (l d : List UInt8) (h : LogR w0 w g n w) (hn : n ≤ 1000000000) (hd : d = digestB l) (hb : Bs w v l) (hl : l.length ≤ 1000000) :
    Calls Tryd.prog 23 #[.pointer (some ⟨g, 0, none⟩), v] w fun e w' => e = .returned (.agg (keyC d)) ∧ LogR w0 w g (n + 1) w' := by
  have HR := Lib.hid h
  have HB := Lib.hid hb
  have hgl := h.glt
  have LD : Hid (d.length = 32) := by show _ = _; rw [hd, digestB_length]
  have HD : Hid (∀ x u, Bs x u l → Calls Tryd.prog 22 #[u] x (RetV x (.agg (keyC d)))) := fun x u hu => by rw [hd]; exact refDigest_any x u l hu hl
  clear h hb hd
  go_enter Tryd.func23, Tryd.ntmps23
  go_wp2_with ((with_reducible refine wpList_alloc_row (o := ⟨some 4, _, _, _, _, _⟩) rfl 33 rfl (keyC zeroKey) Tryd.zeroK ?_); intro g1 w1 n1; have R1 := Lib.hid (HR.out.kept n1.below); have c0 : w1.cell? ⟨g, 0, none⟩ = some (.bool false) := R1.out.row.cell 0; have c1 : w1.cell? ⟨g, 1, none⟩ = some (.int .i64 (n : Int)) := R1.out.row.cell 1; have z1 : w1.frozen? ⟨g, 1, none⟩ = false := R1.out.row.frozen 1; have hadd : IntKind.i64.wrap ((n : Int) + 1) = (n : Int) + 1 := IntWalk.i64_in _ (by omega))
  have Q1 := Lib.hid n1.row
  have hg1 : w.heap.size ≤ g1 := Nat.le_of_eq n1.spot.symm
  have hgg : g1 ≠ g := by omega
  have R2 := Lib.hid R1.out.count
  have R2s := Lib.hid R1.out.self.count
  have B2 := Lib.hid (R2s.out.bs (HB.out.below n1.below))
  have Q2 := Lib.hid (R2s.out.other Q1.out hgg)
  clear n1 HR HB c0 c1 z1 hadd R1 Q1 R2s
  refine (HD.out _ _ (by exact B2.out)).mono ?_
  intro e w3 h
  obtain ⟨he, b3⟩ := h
  subst he
  have R3 := Lib.hid (R2.out.kept b3)
  have Q3 := Lib.hid (Q2.out.kept b3)
  clear b3 R2 Q2 B2 HD
  go_wp2_with ((with_reducible refine wpList_store_row (o := ⟨none, _, _, _, _, _⟩) rfl 33 (.tmp 4) (.tmp 31) rfl g1 33 _ (keyC d) (by with_unfolding_all rfl) (by with_unfolding_all rfl) Q3.out (keyC_same zeroKey_length LD.out) (Tryd.sizeKey d LD.out) (keyC_one d) ?_); intro w4 p4)
  refine bodyPost_ret (results_cell_row rfl _ _ g1 33 (keyC d) (0, 0) (.array 32 5) rfl p4.row Tryd.underlying33 rfl (Tryd.sizeKey d LD.out)) rfl ⟨rfl, ?_⟩
  exact R3.out.put p4 hg1 hgg
end Go.Proofs.YtckpnkohaaebdaaDoor
end
section
namespace Go.Proofs.YtckpnkohaaebdaaDoor
open Go.RowKit
set_option linter.unusedVariables false
set_option maxRecDepth 20000

def keptL (kp : Bool) (ls : List (List UInt8)) : List (List UInt8) := if kp then ls else []
/-- A Meter of the call's own. -/
def MtAt (kp : Bool) (w0 : World) (g n : Nat) (ls : List (List UInt8)) (w : World) : Prop :=
  (kp = true ∧ MeetK w0 g n ls w) ∨ (kp = false ∧ RowAt w g 83 (meterC false n (.slice none 0 0)))
/-- A Log of the call's own. -/
def LgAt (kp : Bool) (w0 : World) (g n : Nat) (ls : List (List UInt8)) (w : World) : Prop :=
  (kp = true ∧ LogK w0 g n ls w) ∨ (kp = false ∧ RowAt w g 41 (logK false n (.slice none 0 0)))
structure Jo (kp : Bool) (w0 : World) (gm gl n m : Nat) (ls ms : List (List UInt8)) (w : World) : Prop where
  below : Below w0.heap.size w0 w
  tabs0 : Tabs w0
  far : w0.heap.size ≤ gm ∧ w0.heap.size ≤ gl
  mt : MtAt kp w0 gm n ls w
  lg : LgAt kp w0 gl m ms w
  ne : gm ≠ gl
  apart : ApartML w gm gl
theorem MtAt.row {kp : Bool} {w0 w : World} {g n : Nat} {ls : List (List UInt8)} (h : MtAt kp w0 g n ls w) : ∃ s, RowAt w g 83 (meterC kp n s) := by
  rcases h with ⟨rfl, h⟩ | ⟨rfl, h⟩
  · obtain ⟨s, vs, hr, _⟩ := h.rows
    exact ⟨s, hr⟩
  · exact ⟨_, h⟩
theorem LgAt.row {kp : Bool} {w0 w : World} {g n : Nat} {ls : List (List UInt8)} (h : LgAt kp w0 g n ls w) : ∃ s, RowAt w g 41 (logK kp n s) := by
  rcases h with ⟨rfl, h⟩ | ⟨rfl, h⟩
  · obtain ⟨s, vs, hr, _⟩ := h.rows
    exact ⟨s, hr⟩
  · exact ⟨_, h⟩
/-- What a call leaves as it was: rows of another place, and of another type. -/
structure LeftJ (w w' : World) (g : Nat) : Prop where
  row : ∀ x t cs, x ≠ g → t ≠ 27 → RowAt w x t cs → RowAt w' x t cs
  size : w.heap.size ≤ w'.heap.size
theorem Jo.tabs {kp : Bool} {w0 w : World} {gm gl n m : Nat} {ls ms : List (List UInt8)} (h : Jo kp w0 gm gl n m ls ms w) : Tabs w := h.tabs0.below h.below
theorem Jo.kept {kp : Bool} {w0 w w' : World} {gm gl n m : Nat} {ls ms : List (List UInt8)} (h : Jo kp w0 gm gl n m ls ms w) (hb : Below w.heap.size w w') : Jo kp w0 gm gl n m ls ms w' := by
  obtain ⟨s, hm⟩ := h.mt.row
  obtain ⟨s', hl⟩ := h.lg.row
  refine ⟨below_size h.below hb, h.tabs0, h.far, ?_, ?_, h.ne, h.apart.rows (fun cs k => row_back hm.lt (hb.block _ hm.lt) k) (fun cs k => row_back hl.lt (hb.block _ hl.lt) k)⟩
  · exact h.mt.imp (fun k => ⟨k.1, k.2.kept hb⟩) (fun k => ⟨k.1, k.2.kept hb⟩)
  · exact h.lg.imp (fun k => ⟨k.1, k.2.kept hb⟩) (fun k => ⟨k.1, k.2.kept hb⟩)
theorem Jo.put {kp : Bool} {w0 w w' : World} {gm gl n m x : Nat} {ls ms : List (List UInt8)} {t : TypeId} {old cs : Array Value} (h : Jo kp w0 gm gl n m ls ms w) (hr : RowAt w x t old) (p : PutRow w x t cs w') (h1 : x ≠ gm) (h2 : x ≠ gl) (h3 : w0.heap.size ≤ x) (h4 : t ≠ 27) (h5 : t ≠ 5) : Jo kp w0 gm gl n m ls ms w' := by
  obtain ⟨s, hm⟩ := h.mt.row
  obtain ⟨s', hl⟩ := h.lg.row
  have e1 : some gm ≠ some x := by intro e; injection e with e; exact h1 e.symm
  have e2 : some gl ≠ some x := by intro e; injection e with e; exact h2 e.symm
  refine ⟨p.below h.below h.below.size h3, h.tabs0, h.far, ?_, ?_, h.ne, h.apart.rows (fun cs k => row_back hm.lt (p.grown.block _ hm.lt e1) k) (fun cs k => row_back hl.lt (p.grown.block _ hl.lt e2) k)⟩
  · exact h.mt.imp (fun k => ⟨k.1, k.2.put hr p h1 h3 h4 h5⟩) (fun k => ⟨k.1, k.2.grown p.grown e1⟩)
  · exact h.lg.imp (fun k => ⟨k.1, k.2.put hr p h2 h3 h4 h5⟩) (fun k => ⟨k.1, k.2.grown p.grown e2⟩)
theorem meterC_keep {kp kp' : Bool} {n n' : Nat} {s s' : Value} {w : World} {g : Nat} {t : TypeId} (h : RowAt w g t (meterC kp n s)) (h' : RowAt w g t (meterC kp' n' s')) : kp = kp' := by
  have e1 : w.cell? ⟨g, 0, none⟩ = some (.bool kp) := h.cell 0
  have e2 : w.cell? ⟨g, 0, none⟩ = some (.bool kp') := h'.cell 0
  rw [e1] at e2
  injection e2 with e2
  injection e2
/-- A row of slices of the Log's is not touched by the Meter's Sum. -/
theorem own_two2 {w w' : World} {base g n : Nat} {t : TypeId} {v : Value} {b : Option Nat} {xs : List Value} {cs : Array Value} (h : w.ownsRow base t 1 v n xs) (hr : RowAt w g 83 cs) (hg : GrownTwo w w' (some g) b) (h1 : t ≠ 83) (h2 : ∀ k, v.ownBlock = some k → some k ≠ b) : w'.ownsRow base t 1 v n xs := by
  refine ⟨h.1, ?_⟩
  rcases h.2 with ⟨e1, e2⟩ | ⟨k, cap, cur, hv, hb, hk, h3⟩
  · exact .inl ⟨e1, e2⟩
  · refine .inr ⟨k, cap, cur, hv, hb, ?_, h3⟩
    have hlt : k < w.heap.size := by
      rcases Nat.lt_or_ge k w.heap.size with hl | hl
      · exact hl
      · rw [Array.getElem?_eq_none hl] at hk; cases hk
    refine (hg.block k hlt (fun e3 => ?_) (h2 k (by rw [hv]; rfl))).trans hk
    injection e3 with e3
    subst e3
    rw [hr] at hk
    injection hk with hk
    injection hk with _ h5
    exact h1 h5.symm

theorem Jo.sumM {kp : Bool} {w0 w : World} {gm gl n m : Nat} {ls ms : List (List UInt8)} (h : Jo kp w0 gm gl n m ls ms w) (v : Value) (l : List (List UInt8)) (hn : n ≤ 1000000000) (ho : ls.length ≤ 1000000) (hb : Bss w v l) (hl : l.flatten.length ≤ 1000000) (hm : l.length ≤ 1000000) :
    Calls Tryd.prog 21 #[.pointer (some ⟨gm, 0, none⟩), v] w fun e w' => e = .returned (.agg (keyC (digestB l.flatten))) ∧ Jo kp w0 gm gl (n + 1) m (ls ++ [l.flatten]) ms w' ∧ LeftJ w w' gm := by
  rcases h.mt with ⟨hk, hk2⟩ | ⟨hk, hk2⟩
  · refine (Sum_keep w0 w gm n v ls l hk2 hn ho hb hl hm).mono ?_
    rintro e w' ⟨he, hM, hL⟩
    refine ⟨he, ?_, ⟨hL.row, hL.size⟩⟩
    rcases h.lg with ⟨_, hlg⟩ | ⟨hf, _⟩
    case inr => rw [hk] at hf; cases hf
    obtain ⟨s0, vs0, m1, m2, m3, m4⟩ := hk2.rows
    obtain ⟨s, vs, k1, k2, k3, k4⟩ := hlg.rows
    have T := hL.two n s0 m1
    have r' := hL.row gl _ _ (Ne.symm h.ne) (by decide) k1
    have ha : ∀ k, s.ownBlock = some k → some k ≠ s0.ownBlock := fun k e1 e2 => h.apart n s0 m s m1 k1 k e2.symm e1
    refine ⟨hM.below, h.tabs0, h.far, .inl ⟨hk, hM⟩, .inl ⟨hk, hM.below, hlg.far, s, vs, r', own_two2 k2 m1 T (by decide) ha, k3, fun j a b => ?_⟩, h.ne, ?_⟩
    · exact own_two (k4 j a b) m1 m2 T (by decide) (by decide)
    · intro n1 s1 n2 s2 h1 h2 b e1 e2
      have es : s2 = s := logK_same h2 r'
      subst es
      rcases hL.own n s0 n1 s1 m1 h1 b e1 with e3 | e3
      · exact h.apart n s0 m s2 m1 k1 b e3 e2
      · have := own_lt k2 b e2
        omega
  · refine (Sum_count w h.tabs gm n (.slice none 0 0) v l hn hk2 hb hl hm).mono ?_
    rintro e w' ⟨he, hr, hg⟩
    have L : LeftJ w w' gm := ⟨fun x t cs hx ht hr => hr.grown hg (by intro e; injection e with e; exact hx e), hg.size⟩
    refine ⟨he, ?_, L⟩
    rcases h.lg with ⟨hf, _⟩ | ⟨_, hlg⟩
    case inl => rw [hk] at hf; cases hf
    refine ⟨h.below.grown hg h.below.size (fun k e => by injection e with e; have := h.far.1; omega), h.tabs0, h.far, .inr ⟨hk, hr⟩, .inr ⟨hk, L.row gl _ _ (Ne.symm h.ne) (by decide) hlg⟩, h.ne, ?_⟩
    intro n1 s1 n2 s2 h1 h2
    have := meterC_keep h1 hr
    cases this
theorem Jo.sumL {kp : Bool} {w0 w : World} {gm gl n m : Nat} {ls ms : List (List UInt8)} (h : Jo kp w0 gm gl n m ls ms w) (v : Value) (l d : List UInt8) (hn : m ≤ 1000000000) (ho : ms.length ≤ 1000000) (hd : d = digestB l) (hb : Bs w v l) (hl : l.length ≤ 1000000) :
    Calls Tryd.prog 23 #[.pointer (some ⟨gl, 0, none⟩), v] w fun e w' => e = .returned (.agg (keyC d)) ∧ Jo kp w0 gm gl n (m + 1) ls (ms ++ [l]) w' ∧ LeftJ w w' gl := by
  rcases h.lg with ⟨hk, hk2⟩ | ⟨hk, hk2⟩
  · refine (LogSum_keep w0 w gl m v ms l d hk2 hn ho hd hb hl).mono ?_
    rintro e w' ⟨he, hM, hg, hnew⟩
    have L : LeftJ w w' gl := ⟨fun x t cs hx ht hr => hr.grown hg (by intro e; injection e with e; exact hx e), hg.size⟩
    refine ⟨he, ?_, L⟩
    rcases h.mt with ⟨_, hmt⟩ | ⟨hf, _⟩
    case inr => rw [hk] at hf; cases hf
    obtain ⟨s0, vs0, m1, m2, m3, m4⟩ := hmt.rows
    obtain ⟨s, vs, k1, k2, k3, k4⟩ := hk2.rows
    have r' := L.row gm _ _ h.ne (by decide) m1
    refine ⟨hM.below, h.tabs0, h.far, .inl ⟨hk, hM.below, h.tabs0, hmt.far, s0, vs0, r', World.ownsRow.kept m2 hg (.inr fun e => own_apart m2 k1 (by decide) e.symm), m3, fun j a b => World.ownsRow.kept (m4 j a b) hg (.inr fun e => own_apart (m4 j a b) k1 (by decide) e.symm)⟩, .inl ⟨hk, hM⟩, h.ne, ?_⟩
    intro n1 s1 n2 s2 h1 h2 b e1 e2
    have es : s1 = s0 := meterC_same h1 r'
    subst es
    have h3 := own_lt m2 b e1
    obtain ⟨sl, vsl, q1, _⟩ := hM.rows
    have es : s2 = sl := logK_same h2 q1
    subst es
    have := hnew _ _ q1 b e2
    omega
  · have hr0 : RowAt w gl 41 (logC m) := hk2
    have LR : LogR w0 w gl m w := LogR.new h.below hr0 h.far.2
    refine (LogSum_run w0 w gl m v l d LR hn hd hb hl).mono ?_
    rintro e w' ⟨he, hR⟩
    have L : LeftJ w w' gl := ⟨fun x t cs hx ht hr => hr.grown hR.grown (by intro e; injection e with e; exact hx e), hR.grown.size⟩
    refine ⟨he, ?_, L⟩
    rcases h.mt with ⟨hf, _⟩ | ⟨_, hmt⟩
    case inl => rw [hk] at hf; cases hf
    have r' := L.row gm _ _ h.ne (by decide) hmt
    refine ⟨hR.below, h.tabs0, h.far, .inr ⟨hk, r'⟩, .inr ⟨hk, hR.row⟩, h.ne, ?_⟩
    intro n1 s1 n2 s2 h1 h2
    have := meterC_keep h1 r'
    cases this
theorem Jo.inputs {kp : Bool} {w0 w : World} {gm gl n m : Nat} {ls ms : List (List UInt8)} (h : Jo kp w0 gm gl n m ls ms w) (hl : ls.length ≤ 1000000) (hs : ∀ l ∈ ls, l.length ≤ 1000000) :
    Calls Tryd.prog 25 #[.pointer (some ⟨gm, 0, none⟩)] w fun e w' => ∃ v, e = .returned v ∧ Bss w' v (keptL kp ls) ∧ Below w.heap.size w w' := by
  rcases h.mt with ⟨rfl, hk⟩ | ⟨rfl, hk⟩
  · exact Inputs_keep w0 w gm n ls hk hl hs
  · exact Inputs_none w gm n hk
theorem Jo.alike {kp : Bool} {w0 w : World} {gm gl n m : Nat} {ls ms : List (List UInt8)} (h : Jo kp w0 gm gl n m ls ms w) (hl : ls.length ≤ 1000000) (hs : ∀ l ∈ ls, l.length ≤ 1000000) :
    Calls Tryd.prog 26 #[.pointer (some ⟨gm, 0, none⟩)] w fun e w' => AlRet (keptL kp ls) e w' ∧ Below w.heap.size w w' := by
  rcases h.mt with ⟨rfl, hk⟩ | ⟨rfl, hk⟩
  · exact Alike_keep w0 w gm n ls hk hl hs
  · exact Alike_none w h.tabs gm n hk
theorem Jo.logIn {kp : Bool} {w0 w : World} {gm gl n m : Nat} {ls ms : List (List UInt8)} (h : Jo kp w0 gm gl n m ls ms w) : ∃ s, RowAt w gl 41 (logK kp m s) ∧ Bss w s (keptL kp ms) := by
  rcases h.lg with ⟨rfl, hk⟩ | ⟨rfl, hk⟩
  · obtain ⟨s, vs, k1, k2, k3, k4⟩ := hk.rows
    exact ⟨s, k1, Bss.own (by rw [k3] at k2; exact k2) k3 fun j a b => (k4 j a b).bs⟩
  · exact ⟨_, hk, Bss.nil w⟩
theorem keptL_small {kp : Bool} {ms : List (List UInt8)} (hs : ∀ l ∈ ms, l.length ≤ 1000000) : ∀ l ∈ keptL kp ms, l.length ≤ 1000000 := by
  unfold keptL
  cases kp
  · simp
  · simpa using hs
theorem keptL_length (kp : Bool) (ms : List (List UInt8)) : (keptL kp ms).length ≤ ms.length := by
  unfold keptL
  cases kp <;> simp
theorem Jo.logAlike {kp : Bool} {w0 w : World} {gm gl n m : Nat} {ls ms : List (List UInt8)} (h : Jo kp w0 gm gl n m ls ms w) (hl : ms.length ≤ 1000000) (hs : ∀ l ∈ ms, l.length ≤ 1000000) :
    Calls Tryd.prog 27 #[.pointer (some ⟨gl, 0, none⟩)] w fun e w' => AlRet (keptL kp ms) e w' ∧ Below w.heap.size w w' := by
  obtain ⟨s, h1, h2⟩ := h.logIn
  exact LogAlike_any w gl m kp s _ h1 h2 (Nat.le_trans (keptL_length _ _) hl) (keptL_small hs)
theorem Jo.new {kp : Bool} {w0 w : World} {gm gl : Nat} (ht : Tabs w0) (hb : Below w0.heap.size w0 w) (h1 : w0.heap.size ≤ gm) (h2 : w0.heap.size ≤ gl) (hne : gm ≠ gl) (hm : RowAt w gm 83 (meterC kp 0 (.slice none 0 0))) (hl : RowAt w gl 41 (logK kp 0 (.slice none 0 0))) : Jo kp w0 gm gl 0 0 [] [] w := by
  refine ⟨hb, ht, ⟨h1, h2⟩, ?_, ?_, hne, ?_⟩
  · cases kp
    · exact .inr ⟨rfl, hm⟩
    · exact .inl ⟨rfl, hb, ht, h1, _, [], hm, World.ownsRow_nil _ _ _ _, rfl, fun j a => by simp at a⟩
  · cases kp
    · exact .inr ⟨rfl, hl⟩
    · exact .inl ⟨rfl, LogK.new hb h2 hl⟩
  · intro n0 s0 n1 s1 k1 k2 b e1
    have es : s0 = .slice none 0 0 := meterC_same k1 hm
    subst es
    simp [Value.ownBlock] at e1
/-- Two answers of Alike are one. -/
theorem AlRet.both {ins : List (List UInt8)} {e e' : Ending} {w w' : World} (h : AlRet ins e w) (h' : AlRet ins e' w') :
    (e = .returned (.tuple #[.slice none 0 0, .slice none 0 0, .bool false]) ∧ e' = .returned (.tuple #[.slice none 0 0, .slice none 0 0, .bool false])) ∨
    ∃ x y a b a' b', e = .returned (.tuple #[a, b, .bool true]) ∧ e' = .returned (.tuple #[a', b', .bool true]) ∧ Bs w a x ∧ Bs w b y ∧ Bs w' a' x ∧ Bs w' b' y := by
  rcases h with ⟨n1, h1⟩ | ⟨j, i, a, b, f1, h1, b1, b2⟩
  · rcases h' with ⟨n2, h2⟩ | ⟨j', i', a', b', f2, h2, b3, b4⟩
    · exact .inl ⟨h1, h2⟩
    · exact absurd n1 f2.not
  · rcases h' with ⟨n2, h2⟩ | ⟨j', i', a', b', f2, h2, b3, b4⟩
    · exact absurd n2 f1.not
    · obtain ⟨e1, e2⟩ := f1.one f2
      subst e1 e2
      exact .inr ⟨_, _, a, b, a', b', h1, h2, b1, b2, b3, b4⟩
end Go.Proofs.YtckpnkohaaebdaaDoor
end
