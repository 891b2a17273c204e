/-
  Texts that belong together, merged: ShaG, ShaH, ShaI, Locks, ShaV, ShaW, Tail, ShaR. Conditions: as each theorem names them.
-/
import Derived.Test.YtckpnkohaaebdaaDoorQShmAC
import Derived.Laws.LoneSync
import Derived.Test.YtckpnkohaaebdaaDoorQShmAB
import Derived.Stop.BytesEq
import Derived.Test.YtckpnkohaaebdaaDoorProg
import Derived.Conc.MuLone
import Derived.Conc.MuData
import Derived.KernelRfl
import Derived.Defers
import Derived.Deep.AppendLies
import Derived.Deep.Onto
import Derived.StillTail
import Derived.Deep.Quiet
import Derived.Deep.QuietTactic
import Derived.StillTailTactics
import Derived.BigQuiet
section
namespace Go.Proofs.YtckpnkohaaebdaaDoor
open Go.RowKit
set_option linter.unusedVariables false
set_option maxRecDepth 20000

/-- What a Meter holds. -/
def meterC (keep : Bool) (n : Nat) (s : Value) : Array Value := #[.bool keep, .int .i64 (n : Int), .int .i32 0, .int .u32 0, s]

set_option maxHeartbeats 400000 in
theorem New_any (w : World) (keep : Bool) :
    Calls Tryd.prog 20 #[.bool keep] w fun e w' => ∃ g, e = .returned (.pointer (some ⟨g, 0, none⟩)) ∧ NewRow w g 83 (meterC keep 0 (.slice none 0 0)) w' := by
  go_enter Tryd.func20, Tryd.ntmps20
  go_wp2
  go_ret
  exact ⟨_, rfl, NewRow.mk_ w 83 (meterC keep 0 (.slice none 0 0))⟩

set_option maxHeartbeats 400000 in
theorem note_nil (w : World) (v : Value) :
    Calls Tryd.prog 46 #[.pointer none, v] w fun e w' => (∃ x, e = .returned x) ∧ w' = w := by
  go_enter Tryd.func46, Tryd.ntmps46
  go_wp2
  first | go_end0 | refine bodyPost_ret (results_none rfl _ _ _) rfl ?_
  all_goals exact ⟨⟨_, rfl⟩, rfl⟩

set_option maxHeartbeats 400000 in
theorem note_count (w : World) (g n : Nat) (s v : Value) (hn : n ≤ 1000000000) (hr : RowAt w g 83 (meterC false n s)) :
    Calls Tryd.prog 46 #[.pointer (some ⟨g, 0, none⟩), v] w fun e w' => (∃ x, e = .returned x) ∧ RowAt w' g 83 (meterC false (n + 1) s) ∧ w.grownBy w' (some g) := by
  have c0 : w.cell? ⟨g, 0, none⟩ = some (.bool false) := hr.cell 0
  have c1 : w.cell? ⟨g, 1, none⟩ = some (.int .i64 (n : Int)) := hr.cell 1
  have z1 : w.frozen? ⟨g, 1, none⟩ = false := hr.frozen 1
  have hadd := run_call_add (P := Tryd.prog) Tryd.func72 (by kernel_rfl) (by kernel_rfl) (by kernel_rfl) .i64 (by kernel_rfl) (y := 1) (s := ((n + 1 : Nat) : Int)) c1 z1 (by simp [go_sem]; rw [IntWalk.i64_in _ (by omega)])
  have hput := hr.put 1 (.int .i64 ((n + 1 : Nat) : Int))
  have HP : Hid (RowAt (w.setCell ⟨g, 1, none⟩ (.int .i64 ((n + 1 : Nat) : Int))) g 83 (meterC false (n + 1) s)) := hput
  clear hput hr
  go_enter Tryd.func46, Tryd.ntmps46
  go_wp2
  go_end0
  have hp := HP.out
  rw [show ((n + 1 : Nat) : Int) = (n : Int) + 1 by omega] at hp
  exact ⟨⟨_, rfl⟩, hp, ⟨rfl, rfl, rfl, by simp, fun k _ hne => heap_setCell_other w _ k _ (fun h => hne (by rw [h]))⟩⟩

theorem Tabs.grown {w w' : World} {row : Option Nat} (h : Tabs w) (hg : w.grownBy w' row) (h1 : some 0 ≠ row) (h2 : some 1 ≠ row) : Tabs w' :=
  ⟨fun j hj => (World.cell?_of_block (hg.block _ (World.block_lt_of_cell? w _ (h.cubes j hj)) h1)).trans (h.cubes j hj), fun j hj => (World.cell?_of_block (hg.block _ (World.block_lt_of_cell? w _ (h.squares j hj)) h2)).trans (h.squares j hj)⟩
/-- A Meter is no table. -/
theorem Tabs.apart {w : World} (h : Tabs w) {g n : Nat} {t : TypeId} {keep : Bool} {s : Value} (hr : RowAt w g t (meterC keep n s)) : g ≠ 0 ∧ g ≠ 1 := by
  constructor
  · intro e
    subst e
    have h0 := h.cubes 0 (by omega)
    rw [hr.cell 0] at h0
    simp [meterC] at h0
  · intro e
    subst e
    have h0 := h.squares 0 (by omega)
    rw [hr.cell 0] at h0
    simp [meterC] at h0

set_option maxHeartbeats 1000000 in
theorem Sum_count (w : World) (ht : Tabs w) (g n : Nat) (s v : Value) (ls : List (List UInt8)) (hn : n ≤ 1000000000) (hr : RowAt w g 83 (meterC false n s)) (hb : Bss w v ls) (hl : ls.flatten.length ≤ 1000000) (hm : ls.length ≤ 1000000) :
    Calls Tryd.prog 21 #[.pointer (some ⟨g, 0, none⟩), v] w fun e w' => e = .returned (keyV (digestB ls.flatten)) ∧ RowAt w' g 83 (meterC false (n + 1) s) ∧ w.grownBy w' (some g) := by
  have HT := Lib.hid ht
  have HR := Lib.hid hr
  have HB := Lib.hid hb
  have hgl := hr.lt
  have HD : Hid (∀ x, Tabs x → ∀ u, Bs x u ls.flatten → Calls Tryd.prog 45 #[u] x (RetV x (.agg (keyC (digestB ls.flatten))))) := fun x hx u hu => digest_any x hx u ls.flatten hu hl
  obtain ⟨fin, hfin⟩ : ∃ fin, fin = digestB ls.flatten := ⟨_, rfl⟩
  have HFL : Hid (fin.length = 32) := by show _ = _; rw [hfin, digestB_length]
  rw [← hfin] at HD ⊢
  have HJ := Lib.hid (fun x u hu => Join_any x u ls hu (by omega) (by omega))
  clear ht hr hb hfin
  go_enter Tryd.func21, Tryd.ntmps21
  go_wp2_with ((with_reducible refine wpList_alloc_row (o := ⟨some 4, _, _, _, _, _⟩) rfl 33 rfl (keyC zeroKey) Tryd.zeroK ?_); intro g1 w1 n1)
  refine (HJ.out _ _ (HB.out.keep n1.below)).mono ?_
  rintro e w2 ⟨u, rfl, hu, b2⟩
  have HU := Lib.hid hu
  have R1 := Lib.hid (n1.row.kept b2)
  have B2 := Lib.hid (below_size n1.below b2)
  have hg1 : w.heap.size ≤ g1 := Nat.le_of_eq n1.spot.symm
  clear n1 b2 hu HB HJ
  go_wp2_with fail
  refine (HD.out _ (HT.out.below B2.out) _ HU.out).mono ?_
  rintro e w3 ⟨rfl, b3⟩
  have R13 := Lib.hid (R1.out.kept b3)
  have B3 := Lib.hid (below_size B2.out b3)
  clear b3 R1 B2 HU HD
  go_wp2_with (first
    | ((with_reducible refine wpList_alloc_row (o := ⟨some 6, _, _, _, _, _⟩) rfl 33 rfl (keyC zeroKey) Tryd.zeroK ?_); intro g4 w4 n4)
    | ((with_reducible refine wpList_store_row (o := ⟨none, _, _, _, _, _⟩) rfl 33 (.tmp 6) (.tmp 10) rfl g4 33 _ (keyC fin) (by with_unfolding_all rfl) (by with_unfolding_all rfl) n4.row (keyC_same zeroKey_length HFL.out) (Tryd.sizeKey fin HFL.out) (keyC_one fin) ?_); intro w5 p5))
  have b5 := (laid_put n4 p5).1
  have B5 := Lib.hid (below_size B3.out b5)
  have R15 := Lib.hid (R13.out.kept b5)
  have R45 := Lib.hid p5.row
  have hg4 : w.heap.size ≤ g4 := by rw [n4.spot]; exact B3.out.size
  clear b5 n4 p5 B3 R13
  refine (note_count _ g n s _ hn (HR.out.kept B5.out)).mono ?_
  rintro e w6 ⟨⟨xe, rfl⟩, hr6, hg6⟩
  have G6 : Hid (w.grownBy w6 (some g)) := ⟨hg6.os.trans B5.out.os, hg6.tape.trans B5.out.tape, hg6.output.trans B5.out.output, Nat.le_trans B5.out.size hg6.size, fun k hk hne => (hg6.block k (Nat.lt_of_lt_of_le hk B5.out.size) hne).trans (B5.out.block k hk)⟩
  have R16 := Lib.hid (R15.out.grown hg6 (by intro e; injection e with e; omega))
  have R46 := Lib.hid (R45.out.grown hg6 (by intro e; injection e with e; omega))
  have HR6 := Lib.hid hr6
  clear hr6 hg6 R15 R45 B5
  go_wp2_with (first
    | (with_reducible refine wpList_load_row (o := ⟨some 14, _, _, _, _, _⟩) rfl 33 (.tmp 6) rfl g4 (by with_unfolding_all rfl) 33 (keyC fin) (0, 0) (.array 32 5) (by with_unfolding_all exact R46.out) Tryd.underlying33 rfl (Tryd.sizeKey fin HFL.out) ?_)
    | ((with_reducible refine wpList_store_row (o := ⟨none, _, _, _, _, _⟩) rfl 33 (.tmp 4) (.tmp 14) rfl g1 33 _ (keyC fin) (by with_unfolding_all rfl) (by with_unfolding_all rfl) R16.out (keyC_same zeroKey_length HFL.out) (Tryd.sizeKey fin HFL.out) (keyC_one fin) ?_); intro w9 p9))
  refine bodyPost_ret (results_cell_row rfl _ _ g1 33 (keyC fin) (0, 0) (.array 32 5) rfl p9.row Tryd.underlying33 rfl (Tryd.sizeKey fin HFL.out)) rfl ⟨rfl, HR6.out.grown p9.grown (by intro e; injection e with e; omega), ?_⟩
  have q := p9.grown
  exact ⟨q.os.trans G6.out.os, q.tape.trans G6.out.tape, q.output.trans G6.out.output, Nat.le_trans G6.out.size q.size, fun k hk hne => (q.block k (Nat.lt_of_lt_of_le hk G6.out.size) (by intro e; injection e with e; omega)).trans (G6.out.block k hk hne)⟩
end Go.Proofs.YtckpnkohaaebdaaDoor
end
section
namespace Go.Proofs.YtckpnkohaaebdaaDoor
open Go.RowKit
set_option linter.unusedVariables false
set_option maxRecDepth 20000

theorem Bs.upto {w : World} {A : Option Addr} {n c : Nat} {l : List UInt8} (h : Bs w (.slice A n c) l) (k : Nat) (hk : k ≤ l.length) : Bs w (.slice A k c) (l.take k) := by
  obtain ⟨A', c', hv, h1, h2, h3⟩ := h
  injection hv with e1 e2 e3
  subst e1 e2 e3
  have hl : (l.take k).length = k := List.length_take_of_le hk
  refine ⟨A, c, by rw [hl], by rw [hl]; omega, h2, fun h0 => ?_⟩
  rw [hl] at h0
  obtain ⟨b, off, hA, hc⟩ := h3 (by omega)
  refine ⟨b, off, hA, fun j hj => ?_⟩
  rw [hl] at hj
  rw [hc j (by omega)]
  simp

set_option maxHeartbeats 400000 in
theorem first_any (w : World) (v : Value) (l : List UInt8) (hb : Bs w v l) (h4 : 4 ≤ l.length) :
    Calls Tryd.prog 38 #[v] w fun e w' => e = .returned (.int .u64 (ofHighB (l.take 4) : Int)) ∧ w' = w := by
  have HB := Lib.hid hb
  obtain ⟨A, c, rfl, h1, h2, h3⟩ := hb
  unfold maxLen at h2
  clear h3
  have ht : Hid ((l.take 4).take 8 = l.take 4) := List.take_of_length_le (by rw [List.length_take]; omega)
  go_enter Tryd.func38, Tryd.ntmps38
  go_wp2_with fail
  refine (refOfHigh_any _ _ (l.take 4) (HB.out.upto 4 h4)).mono ?_
  rintro e w' ⟨rfl, rfl⟩
  rw [ht.out]
  go_wp2
  go_ret
  exact ⟨rfl, rfl⟩

theorem abc_a : (ofHighB ((digestB []).take 4) : Int) = 3820012610 := by rw [digest_empty]; rfl
theorem abc_b : (ofHighB (((digestB []).drop 28).take 4) : Int) = 2018687061 := by rw [digest_empty]; rfl
theorem abc_c : (ofHighB ((digestB [97, 98, 99]).take 4) : Int) = 3128432319 := by rw [digest_abc]; rfl
theorem abc_d : (ofHighB (((digestB [97, 98, 99]).drop 28).take 4) : Int) = 4060091821 := by rw [digest_abc]; rfl
theorem Tryd.sizeOfB2 (w : World) : (sizeOf 5).run Tryd.prog w = .ok 1 w := by kernel_rfl
theorem Tryd.eqKeyIn2 (a b : List UInt8) (ha : a.length = 32) (hb : b.length = 32) (w : World) :
    (Op.equalIn 10000 33 (.agg (keyC a)) (.agg (keyC b))).run Tryd.prog w = .ok (a == b) w :=
  run_equalIn_bytes w 9998 33 5 32 Tryd.underlying33 Tryd.underlying5 Tryd.sizeOfB2 a b ha hb
theorem Tryd.eqGuardKey2 : Tryd.prog.eqGuardType Tryd.prog.depth 33 = false := by kernel_rfl
theorem Bss.nil (w : World) : Bss w (.slice none 0 0) [] := ⟨none, 0, rfl, Nat.le_refl _, by simp [maxLen], fun h => absurd h (by simp)⟩
theorem Bss.one (w : World) (e : TypeId) (u : Value) (a : List UInt8) (ha : Bs w u a) : Bss (w.alloc (.cells #[u] e)) (.slice (some ⟨w.heap.size, 0, none⟩) 1 1) [a] :=
  Bss.lit w e [u] [a] rfl (by simp [maxLen]) (fun j h1 h2 => by
    match j, h1 with
    | 0, _ => exact ha)

theorem Sum_is (w : World) (ht : Tabs w) (g n : Nat) (s v : Value) (ls : List (List UInt8)) (d : List UInt8) (hd : d = digestB ls.flatten) (hn : n ≤ 1000000000) (hr : RowAt w g 83 (meterC false n s)) (hb : Bss w v ls) (hl : ls.flatten.length ≤ 1000000) (hm : ls.length ≤ 1000000) :
    Calls Tryd.prog 21 #[.pointer (some ⟨g, 0, none⟩), v] w fun e w' => e = .returned (.agg (keyC d)) ∧ RowAt w' g 83 (meterC false (n + 1) s) ∧ w.grownBy w' (some g) := by
  rw [hd]
  exact Sum_count w ht g n s v ls hn hr hb hl hm
/-- Behind a Sum: the tables, and what was there but for the Meter. -/
theorem sum_tabs {w w' : World} {g n : Nat} {t : TypeId} {s : Value} (ht : Tabs w) (hr : RowAt w g t (meterC false n s)) (hg : w.grownBy w' (some g)) : Tabs w' :=
  ht.grown hg (by intro e; injection e with e; exact (ht.apart hr).1 e.symm) (by intro e; injection e with e; exact (ht.apart hr).2 e.symm)
end Go.Proofs.YtckpnkohaaebdaaDoor
end
section
namespace Go.Proofs.YtckpnkohaaebdaaDoor
open Go.RowKit
set_option linter.unusedVariables false
set_option maxRecDepth 20000

theorem Bs.meter {w w' : World} {v : Value} {l : List UInt8} {g n k c : Nat} {t : TypeId} {keep : Bool} {A : Option Addr} (h : Bs w v l) (hr : RowAt w g t (meterC keep n (.slice A k c))) (hg : w.grownBy w' (some g)) : Bs w' v l := by
  obtain ⟨B, d, rfl, h1, h2, h3⟩ := h
  refine ⟨B, d, rfl, h1, h2, fun h0 => ?_⟩
  obtain ⟨b, off, hA, hc⟩ := h3 h0
  refine ⟨b, off, hA, fun j hj => ?_⟩
  have hcj := hc j hj
  have hb : b ≠ g := by
    intro e
    subst e
    rw [hr.cell] at hcj
    simp only [meterC] at hcj
    rcases hx : off + j with _ | _ | _ | _ | _ | m <;> rw [hx] at hcj <;> simp at hcj
  exact (World.cell?_of_block (a := ⟨b, off + j, none⟩) (hg.block _ (World.block_lt_of_cell? w _ hcj) (by intro e; injection e with e; exact hb e))).trans hcj
/-- What a call has of a Meter that it made: the Meter's row, the tables, and what was there before. -/
structure Meet (w0 : World) (g n : Nat) (w : World) : Prop where
  below : Below w0.heap.size w0 w
  row : RowAt w g 83 (meterC false n (.slice none 0 0))
  tabs : Tabs w
  far : w0.heap.size ≤ g
theorem Meet.kept {w0 w w' : World} {g n : Nat} (h : Meet w0 g n w) (hb : Below w.heap.size w w') : Meet w0 g n w' :=
  ⟨below_size h.below hb, h.row.kept hb, h.tabs.below hb, h.far⟩
theorem Meet.new {w0 w w' : World} {g : Nat} (ht : Tabs w) (hb : Below w0.heap.size w0 w) (h : NewRow w g 83 (meterC false 0 (.slice none 0 0)) w') : Meet w0 g 0 w' :=
  ⟨below_size hb h.below, h.row, ht.below h.below, by rw [h.spot]; exact hb.size⟩
/-- What a Sum leaves as it was: every row but the Meter's, and all bytes. -/
structure LeftBut (w w' : World) (g : Nat) : Prop where
  row : ∀ x t cs, x ≠ g → RowAt w x t cs → RowAt w' x t cs
  bs : ∀ v l, Bs w v l → Bs w' v l
  size : w.heap.size ≤ w'.heap.size
theorem LeftBut.of {w0 w w' : World} {g n : Nat} (h : Meet w0 g n w) (hg : w.grownBy w' (some g)) : LeftBut w w' g :=
  ⟨fun x t cs hx hr => hr.grown hg (by intro e; injection e with e; exact hx e), fun v l hv => hv.meter h.row hg, hg.size⟩

theorem Sum_meet (w0 w : World) (g n : Nat) (v : Value) (ls : List (List UInt8)) (d : List UInt8) (h : Meet w0 g n w) (hn : n ≤ 1000000000) (hd : d = digestB ls.flatten) (hb : Bss w v ls) (hl : ls.flatten.length ≤ 1000000) (hm : ls.length ≤ 1000000) :
    Calls Tryd.prog 21 #[.pointer (some ⟨g, 0, none⟩), v] w fun e w' => e = .returned (.agg (keyC d)) ∧ Meet w0 g (n + 1) w' ∧ LeftBut w w' g := by
  refine (Sum_is w h.tabs g n _ v ls d hd hn h.row hb hl hm).mono fun e w' hp => ?_
  obtain ⟨he, hr, hg⟩ := hp
  exact ⟨he, ⟨h.below.grown hg h.below.size (fun k e => by injection e with e; rw [← e]; exact h.far), hr, sum_tabs h.tabs h.row hg, h.far⟩, LeftBut.of h hg⟩

theorem Bs.cutAt {w : World} {b off n c : Nat} {l : List UInt8} (h : Bs w (.slice (some ⟨b, off, none⟩) n c) l) (k : Nat) (hk : k ≤ l.length) (hc : c ≠ k) :
    Bs w (.slice (some ⟨b, off + k, none⟩) (l.length - k) (c - k)) (l.drop k) := by
  have h2 := h.cut k hk
  have hadd : (⟨b, off, none⟩ : Addr).add k = ⟨b, off + k, none⟩ := by unfold Addr.add; split <;> simp_all
  rw [if_neg hc, Option.map_some, hadd] at h2
  exact h2
theorem size_alloc (w : World) (o : Obj) : (w.alloc o).heap.size = w.heap.size + 1 := by simp
theorem alloc_below (w : World) (o : Obj) : Below w.heap.size w (w.alloc o) := (Below.refl _ w).alloc (Nat.le_refl _) o
theorem row32 {w : World} {g : Nat} {t : TypeId} {l : List UInt8} (h : RowAt w g t (keyC l)) (hl : l.length = 32) : Bs w (.slice (some ⟨g, 0, none⟩) 32 32) l := by
  have := row_bs h (by rw [hl]; unfold maxLen; omega)
  rwa [hl] at this
theorem row28 {w : World} {g : Nat} {t : TypeId} {l : List UInt8} (h : RowAt w g t (keyC l)) (hl : l.length = 32) : Bs w (.slice (some ⟨g, 28, none⟩) 4 4) (l.drop 28) := by
  have := Bs.part h 28 4 4 (by omega) (Nat.le_refl _) (by unfold maxLen; omega)
  rwa [List.take_of_length_le (by rw [List.length_drop]; omega)] at this

set_option maxHeartbeats 2000000 in
theorem awake_true (w : World) (hq : Tabs w) : Calls Tryd.prog 14 #[] w (RetV w (.bool true)) := by
  have HQ := Lib.hid hq
  clear hq
  obtain ⟨d0, hd0⟩ : ∃ d, d = digestB ([] : List (List UInt8)).flatten := ⟨_, rfl⟩
  obtain ⟨d1, hd1⟩ : ∃ d, d = digestB [[97, 98, 99]].flatten := ⟨_, rfl⟩
  have HD0 := Lib.hid hd0
  have HD1 := Lib.hid hd1
  have HD2 : Hid (d1 = digestB [[97], [98, 99]].flatten) := hd1
  have L0 : Hid (d0.length = 32) := by show _ = _; rw [hd0, digestB_length]
  have L1 : Hid (d1.length = 32) := by show _ = _; rw [hd1, digestB_length]
  have F0 : Hid (∀ x v, Bs x v d0 → Calls Tryd.prog 38 #[v] x fun e w' => e = .returned (.int .u64 3820012610) ∧ w' = x) := fun x v h => by
    have := first_any x v d0 h (by rw [L0.out]; omega)
    rw [HD0.out] at this
    rwa [show (ofHighB ((digestB ([] : List (List UInt8)).flatten).take 4) : Int) = 3820012610 from abc_a] at this
  have F1 : Hid (∀ x v, Bs x v (d0.drop 28) → Calls Tryd.prog 38 #[v] x fun e w' => e = .returned (.int .u64 2018687061) ∧ w' = x) := fun x v h => by
    have := first_any x v _ h (by rw [List.length_drop, L0.out]; omega)
    rw [HD0.out] at this
    rwa [show (ofHighB (((digestB ([] : List (List UInt8)).flatten).drop 28).take 4) : Int) = 2018687061 from abc_b] at this
  have F2 : Hid (∀ x v, Bs x v d1 → Calls Tryd.prog 38 #[v] x fun e w' => e = .returned (.int .u64 3128432319) ∧ w' = x) := fun x v h => by
    have := first_any x v d1 h (by rw [L1.out]; omega)
    rw [HD1.out] at this
    rwa [show (ofHighB ((digestB ([[97, 98, 99]] : List (List UInt8)).flatten).take 4) : Int) = 3128432319 from abc_c] at this
  have F3 : Hid (∀ x v, Bs x v (d1.drop 28) → Calls Tryd.prog 38 #[v] x fun e w' => e = .returned (.int .u64 4060091821) ∧ w' = x) := fun x v h => by
    have := first_any x v _ h (by rw [List.length_drop, L1.out]; omega)
    rw [HD1.out] at this
    rwa [show (ofHighB (((digestB ([[97, 98, 99]] : List (List UInt8)).flatten).drop 28).take 4) : Int) = 4060091821 from abc_d] at this
  clear hd0 hd1
  go_enter Tryd.func14, Tryd.ntmps14
  go_wp2_with fail
  refine (New_any _ false).mono ?_
  rintro e w1 ⟨gm, rfl, n1⟩
  have M1 := Lib.hid (Meet.new HQ.out (Below.refl _ _) n1)
  clear n1 HQ
  go_wp2_with fail
  refine (Sum_meet w w1 gm 0 _ [] d0 M1.out (by omega) HD0.out (Bss.nil _) (by simp) (by simp)).mono ?_
  intro e w2 h
  obtain ⟨he, m2, _⟩ := h
  subst he
  have M2 := Lib.hid m2
  clear m2 M1
  go_wp2_with (first
    | ((with_reducible refine wpList_alloc_row (o := ⟨some 2, _, _, _, _, _⟩) rfl 33 rfl (keyC zeroKey) Tryd.zeroK ?_); intro g3 w3 n3)
    | ((with_reducible refine wpList_store_row (o := ⟨none, _, _, _, _, _⟩) rfl 33 (.tmp 2) (.tmp 9) rfl g3 33 _ (keyC d0) (by with_unfolding_all rfl) (by with_unfolding_all rfl) n3.row (keyC_same zeroKey_length L0.out) (Tryd.sizeKey d0 L0.out) (keyC_one d0) ?_); intro w4 p4))
  have M4 := Lib.hid (M2.out.kept (laid_put n3 p4).1)
  have R4 := Lib.hid p4.row
  have h3m : g3 ≠ gm := by have := n3.spot; have := M2.out.row.lt; omega
  clear n3 p4 M2
  have hb3 : Bs (w4.alloc (.cells #[.int .u8 97, .int .u8 98, .int .u8 99] 5)) (.slice (some ⟨w4.heap.size, 0, none⟩) 3 3) [97, 98, 99] := Bs.lit w4 _ [97, 98, 99] _ rfl (by unfold maxLen; simp)
  have hs3 := Bss.one _ 27 _ _ hb3
  rw [size_alloc] at hs3
  have HS3 := Lib.hid hs3
  clear hb3 hs3
  refine (Sum_meet w _ gm _ _ [[97, 98, 99]] d1 (by exact (M4.out.kept (alloc_below _ _)).kept (alloc_below _ _)) (by omega) HD1.out (by exact HS3.out) (by simp) (by simp)).mono ?_
  intro e w5 h
  obtain ⟨he, m5, g5⟩ := h
  subst he
  have M5 := Lib.hid m5
  have R5 := Lib.hid (g5.row _ _ _ h3m ((R4.out.kept (alloc_below _ _)).kept (alloc_below _ _)))
  clear m5 g5 M4 R4 HS3
  go_wp2_with (first
    | ((with_reducible refine wpList_alloc_row (o := ⟨some 3, _, _, _, _, _⟩) rfl 33 rfl (keyC zeroKey) Tryd.zeroK ?_); intro g6 w6 n6)
    | ((with_reducible refine wpList_store_row (o := ⟨none, _, _, _, _, _⟩) rfl 33 (.tmp 3) (.tmp 13) rfl g6 33 _ (keyC d1) (by with_unfolding_all rfl) (by with_unfolding_all rfl) n6.row (keyC_same zeroKey_length L1.out) (Tryd.sizeKey d1 L1.out) (keyC_one d1) ?_); intro w7 p7))
  have M7 := Lib.hid (M5.out.kept (laid_put n6 p7).1)
  have R7 := Lib.hid (R5.out.kept (laid_put n6 p7).1)
  have S7 := Lib.hid p7.row
  have h6m : g6 ≠ gm := by have := n6.spot; have := M5.out.row.lt; omega
  clear n6 p7 M5 R5
  have hb1 : Bs (w7.alloc (.cells #[.int .u8 97] 5)) (.slice (some ⟨w7.heap.size, 0, none⟩) 1 1) [97] := Bs.lit w7 _ [97] _ rfl (by unfold maxLen; simp)
  have hb2 : Bs ((w7.alloc (.cells #[.int .u8 97] 5)).alloc (.cells #[.int .u8 98, .int .u8 99] 5)) (.slice (some ⟨(w7.alloc (.cells #[.int .u8 97] 5)).heap.size, 0, none⟩) 2 2) [98, 99] := Bs.lit _ _ [98, 99] _ rfl (by unfold maxLen; simp)
  have hs3 := Bss.two _ 27 _ _ _ _ (hb1.below (alloc_below _ _)) hb2
  simp only [size_alloc] at hs3
  have HS3 := Lib.hid hs3
  clear hb1 hb2 hs3
  go_wp2_with fail
  refine (Sum_meet w _ gm _ _ [[97], [98, 99]] d1 (by exact ((M7.out.kept (alloc_below _ _)).kept (alloc_below _ _)).kept (alloc_below _ _)) (by omega) HD2.out (by exact HS3.out) (by simp) (by simp)).mono ?_
  intro e w8 h
  obtain ⟨he, m8, g8⟩ := h
  subst he
  have M8 := Lib.hid m8
  have R8 := Lib.hid (g8.row _ _ _ h3m (((R7.out.kept (alloc_below _ _)).kept (alloc_below _ _)).kept (alloc_below _ _)))
  have S8 := Lib.hid (g8.row _ _ _ h6m (((S7.out.kept (alloc_below _ _)).kept (alloc_below _ _)).kept (alloc_below _ _)))
  clear m8 g8 M7 R7 S7 HS3
  go_wp2_with (first
    | ((with_reducible refine wpList_alloc_row (o := ⟨some 4, _, _, _, _, _⟩) rfl 33 rfl (keyC zeroKey) Tryd.zeroK ?_); intro g9 w9 n9)
    | ((with_reducible refine wpList_store_row (o := ⟨none, _, _, _, _, _⟩) rfl 33 (.tmp 4) (.tmp 18) rfl g9 33 _ (keyC d1) (by with_unfolding_all rfl) (by with_unfolding_all rfl) n9.row (keyC_same zeroKey_length L1.out) (Tryd.sizeKey d1 L1.out) (keyC_one d1) ?_); intro w10 p10))
  have B10 := Lib.hid (below_size M8.out.below (laid_put n9 p10).1)
  have R10 := Lib.hid (R8.out.kept (laid_put n9 p10).1)
  have S10 := Lib.hid (S8.out.kept (laid_put n9 p10).1)
  have T10 := Lib.hid p10.row
  clear n9 p10 M8 R8 S8
  refine (Pad_any _ 55 (by omega)).mono ?_
  intro e w11 h
  obtain ⟨u, he, hu, b11⟩ := h
  subst he
  have B11 := Lib.hid (below_size B10.out b11)
  have R11 := Lib.hid (R10.out.kept b11)
  have S11 := Lib.hid (S10.out.kept b11)
  have T11 := Lib.hid (T10.out.kept b11)
  obtain ⟨A, c, rfl, _, _, _⟩ := hu
  rw [show (padB 55).length = 9 by rw [padB_length]]
  clear b11 B10 R10 S10 T10
  go_wp2_with fail
  refine (Pad_any _ 56 (by omega)).mono ?_
  intro e w12 h
  obtain ⟨u, he, hu, b12⟩ := h
  subst he
  have B12 := Lib.hid (below_size B11.out b12)
  have R12 := Lib.hid (R11.out.kept b12)
  have S12 := Lib.hid (S11.out.kept b12)
  have T12 := Lib.hid (T11.out.kept b12)
  obtain ⟨A2, c2, rfl, _, _, _⟩ := hu
  rw [show (padB 56).length = 72 by rw [padB_length]]
  clear b12 B11 R11 S11 T11
  have hsl := fun x : World => run_sliceArrL (P := Tryd.prog) x 33 5 32 Tryd.underlying33 Tryd.sizeB g3 0 28 28 rfl (by omega)
  go_wp2_with fail
  refine (F0.out _ _ (row32 R12.out L0.out)).mono ?_
  intro e x h
  obtain ⟨he, hw⟩ := h
  subst he hw
  go_wp2_with fail
  refine (F1.out _ _ (row28 R12.out L0.out)).mono ?_
  intro e x h
  obtain ⟨he, hw⟩ := h
  subst he hw
  clear hsl
  have hsl := fun x : World => run_sliceArrL (P := Tryd.prog) x 33 5 32 Tryd.underlying33 Tryd.sizeB g6 0 28 28 rfl (by omega)
  go_wp2_with fail
  refine (F2.out _ _ (row32 S12.out L1.out)).mono ?_
  intro e x h
  obtain ⟨he, hw⟩ := h
  subst he hw
  go_wp2_with fail
  refine (F3.out _ _ (row28 S12.out L1.out)).mono ?_
  intro e x h
  obtain ⟨he, hw⟩ := h
  subst he hw
  clear hsl
  have heq := fun w => Tryd.eqKeyIn2 d1 d1 L1.out L1.out w
  rw [beq_self_eq_true] at heq
  have hgd := Tryd.eqGuardKey2
  go_wp2_with (first
    | (with_reducible refine wpListG_load_row (o := ⟨some 40, _, _, _, _, _⟩) 33 (.tmp 3) rfl (by with_unfolding_all rfl) g6 (by with_unfolding_all rfl) 33 (keyC d1) (.array 32 5) (by with_unfolding_all exact S12.out) Tryd.underlying33 rfl (Tryd.sizeKey d1 L1.out) ?_)
    | (with_reducible refine wpListG_load_row (o := ⟨some 41, _, _, _, _, _⟩) 33 (.tmp 4) rfl (by with_unfolding_all rfl) g9 (by with_unfolding_all rfl) 33 (keyC d1) (.array 32 5) (by with_unfolding_all exact T12.out) Tryd.underlying33 rfl (Tryd.sizeKey d1 L1.out) ?_))
  go_ret
  exact ⟨rfl, B12.out⟩
end Go.Proofs.YtckpnkohaaebdaaDoor
end
section
namespace Go.Proofs.YtckpnkohaaebdaaDoor
open Go.Proofs
theorem muLib : Go.Conc.Locks.MuLib Tryd.prog { lock := 48, unlock := 49, ilock := 67, iunlock := 68, lockSlow := 77, unlockSlow := 80, disable := 73, enable := 75, acquire := 76, relMerge := 78, cas32 := 74, add32 := 79, tMutex := 81, tIMutex := 79, tPMutex := 104, tPIMutex := 109, tPI32 := 111, tUP := 113, tNoCopy := 77, tU32 := 22 } :=
  ⟨Tryd.func48, Tryd.func49, Tryd.func67, Tryd.func68, Tryd.func73, Tryd.func75, Tryd.func76, Tryd.func78, Tryd.func74, Tryd.func79, Tryd.underlying79, Tryd.runUnderlying79, Tryd.sizeOf79, Tryd.isAgg79, Tryd.zeroValue79, Tryd.underlying81, Tryd.runUnderlying81, Tryd.sizeOf81, Tryd.isAgg81, Tryd.zeroValue81, Tryd.underlying104, Tryd.runUnderlying104, Tryd.sizeOf104, Tryd.isAgg104, Tryd.zeroValue104, Tryd.underlying109, Tryd.runUnderlying109, Tryd.sizeOf109, Tryd.isAgg109, Tryd.zeroValue109, Tryd.underlying111, Tryd.runUnderlying111, Tryd.sizeOf111, Tryd.isAgg111, Tryd.zeroValue111, Tryd.underlying113, Tryd.runUnderlying113, Tryd.sizeOf113, Tryd.isAgg113, Tryd.zeroValue113, Tryd.underlying77, Tryd.runUnderlying77, Tryd.sizeOf77, Tryd.isAgg77, Tryd.zeroValue77, Tryd.underlying21, Tryd.runUnderlying21, Tryd.sizeOf21, Tryd.isAgg21, Tryd.zeroValue21, (by kernel_rfl)⟩
end Go.Proofs.YtckpnkohaaebdaaDoor
end
section
namespace Go.Proofs.YtckpnkohaaebdaaDoor
open Go.RowKit
set_option linter.unusedVariables false
set_option maxRecDepth 20000

theorem Tryd.infoS : (Tryd.prog.info? 27).map (fun i => (i.zero, i.size, i.bytes)) = some (some (.slice none 0 0), 1, 24) := by kernel_rfl

theorem Add_any (w : World) (g n : Nat) (hn : n ≤ 1000000000) (hc : w.cell? ⟨g, 1, none⟩ = some (.int .i64 (n : Int))) (hz : w.frozen? ⟨g, 1, none⟩ = false) :
    Calls Tryd.prog 65 #[.pointer (some ⟨g, 1, none⟩), .int .i64 1] w fun e w' => (∃ x, e = .returned x) ∧ w' = w.setCell ⟨g, 1, none⟩ (.int .i64 ((n + 1 : Nat) : Int)) := by
  have hadd := run_call_add (P := Tryd.prog) Tryd.func72 (by kernel_rfl) (by kernel_rfl) (by kernel_rfl) .i64 (by kernel_rfl) (y := 1) (s := ((n + 1 : Nat) : Int)) hc hz (by simp [go_sem]; rw [IntWalk.i64_in _ (by omega)])
  go_enter Tryd.func65, Tryd.ntmps65
  go_wp2
  go_ret
  exact ⟨⟨_, rfl⟩, rfl⟩

/-- The row of the lists that a Meter keeps is not the Meter's own. -/
theorem own_apart {w : World} {base n g : Nat} {e t : TypeId} {s : Value} {xs : List Value} {cs : Array Value} (h : w.ownsRow base e 1 s n xs) (hr : RowAt w g t cs) (ht : t ≠ e) : some g ≠ s.ownBlock := by
  rcases h.2 with ⟨rfl, _⟩ | ⟨k, cap, cur, rfl, _, hk, _⟩
  · simp [Value.ownBlock]
  · intro e2
    have : g = k := by simpa [Value.ownBlock] using e2
    subst this
    rw [hr] at hk
    injection hk with hk
    injection hk with h1 h2
    exact ht h2

theorem put_grown (w : World) (g i : Nat) (u : Value) : w.grownBy (w.setCell ⟨g, i, none⟩ u) (some g) :=
  ⟨rfl, rfl, rfl, by simp, fun k _ hne => heap_setCell_other w _ k _ (fun h => hne (by rw [h]))⟩
theorem own_put_other {w : World} {base n g : Nat} {e t : TypeId} {s : Value} {xs : List Value} {cs : Array Value} (h : w.ownsRow base e 1 s n xs) (hr : RowAt w g t cs) (ht : t ≠ e) (i : Nat) (u : Value) : (w.setCell ⟨g, i, none⟩ u).ownsRow base e 1 s n xs :=
  World.ownsRow.kept h (put_grown w g i u) (.inr (fun e2 => own_apart h hr ht e2.symm))
theorem grown_of_alloc (w : World) (o : Obj) (a : Option Nat) : w.grownBy (w.alloc o) a := ⟨rfl, rfl, rfl, by simp, fun k hk _ => Below.heap_alloc w o k hk⟩
/-- Behind a call that writes at two rows at most: all else. -/
structure GrownTwo (w w' : World) (a b : Option Nat) : Prop where
  os : w'.os = w.os
  tape : w'.tape = w.tape
  output : w'.output = w.output
  size : w.heap.size ≤ w'.heap.size
  block : ∀ k, k < w.heap.size → some k ≠ a → some k ≠ b → w'.heap[k]? = w.heap[k]?
theorem GrownTwo.refl (w : World) (a b : Option Nat) : GrownTwo w w a b := ⟨rfl, rfl, rfl, Nat.le_refl _, fun _ _ _ _ => rfl⟩
theorem GrownTwo.fst {w w' w'' : World} {a b : Option Nat} (h : GrownTwo w w' a b) (k : w'.grownBy w'' a) : GrownTwo w w'' a b :=
  ⟨k.os.trans h.os, k.tape.trans h.tape, k.output.trans h.output, Nat.le_trans h.size k.size, fun i hi h1 h2 => (k.block i (Nat.lt_of_lt_of_le hi h.size) h1).trans (h.block i hi h1 h2)⟩
theorem GrownTwo.snd {w w' w'' : World} {a b : Option Nat} (h : GrownTwo w w' a b) (k : w'.grownBy w'' b) : GrownTwo w w'' a b :=
  ⟨k.os.trans h.os, k.tape.trans h.tape, k.output.trans h.output, Nat.le_trans h.size k.size, fun i hi h1 h2 => (k.block i (Nat.lt_of_lt_of_le hi h.size) h2).trans (h.block i hi h1 h2)⟩

set_option maxHeartbeats 1000000 in
theorem note_keep (w : World) (g n base : Nat) (s : Value) (VA : Option Addr) (vn vc : Nat) (vs : List Value) (hn : n ≤ 1000000000) (hr : RowAt w g 83 (meterC true n s)) (ho : w.ownsRow base 27 1 s vs.length vs) (hb : base ≤ w.heap.size) (hm : vs.length ≤ 1000000) :
    Calls Tryd.prog 46 #[.pointer (some ⟨g, 0, none⟩), .slice VA vn vc] w fun e w' => (∃ x, e = .returned x) ∧ ∃ s', RowAt w' g 83 (meterC true (n + 1) s') ∧ w'.ownsRow base 27 1 s' (vs.length + 1) (vs ++ [.slice VA vn vc]) ∧ GrownTwo w w' (some g) s.ownBlock ∧ ∀ b, s'.ownBlock = some b → s.ownBlock = some b ∨ w.heap.size ≤ b := by
  obtain ⟨i0, hi, hz0, hz1, hz2⟩ := info_parts Tryd.infoS
  have c0 : w.cell? ⟨g, 0, none⟩ = some (.bool true) := hr.cell 0
  have c2 : w.cell? ⟨g, 2, none⟩ = some (.int .i32 0) := hr.cell 2
  have z2 : w.frozen? ⟨g, 2, none⟩ = false := hr.frozen 2
  have hgl := hr.lt
  have R1 : Hid (RowAt (w.setCell ⟨g, 2, none⟩ (.int .i32 1)) g 83 #[.bool true, .int .i64 (n : Int), .int .i32 1, .int .u32 0, s]) := hr.put 2 (.int .i32 1)
  have O1 := Lib.hid (own_put_other ho hr (by decide) 2 (.int .i32 1))
  have G1 := Lib.hid ((GrownTwo.refl w (some g) s.ownBlock).fst (put_grown w g 2 (.int .i32 1)))
  have HZ0 := Lib.hid hz0
  have HZ1 := Lib.hid hz1
  have HZ2 := Lib.hid hz2
  have HI := Lib.hid hi
  clear hr ho hz0 hz1 hz2 hi
  go_enter_defers Tryd.func46, Tryd.ntmps46
  go_wp2_with fail
  refine (Go.MuLone.lock_free muLib ⟨g, 2, none⟩ _ c2 z2).mono ?_
  intro e w1 h
  obtain ⟨he, hw⟩ := h
  subst he
  rw [← hw] at R1 O1 G1
  clear hw c0 c2 z2
  have c4 : w1.cell? ⟨g, 4, none⟩ = some s := R1.out.cell 4
  have HNW : Hid (∀ (j : Nat) u, ([.slice VA vn vc] : List Value)[j]? = some u → (w1.alloc (.cells #[.slice VA vn vc] 27)).cell? ((⟨w1.heap.size, 0, none⟩ : Addr).add j) = some u) := by
    intro j u hj
    rcases j with _ | j
    · have h0 := (RowAt.new w1 27 #[.slice VA vn vc]).cell 0
      simp at hj
      subst hj
      exact h0
    · simp at hj
  have HON : Hid (∀ u ∈ ([.slice VA vn vc] : List Value), u.oneCell' = true) := by
    intro u hu
    simp at hu
    rw [hu]
    rfl
  go_wp2_with (at_builtin; go_loud (refine wpList_append_lies _ rfl (.tmp 21) (.tmp 23) 38 rfl base 27 i0 (.slice none 0 0) 1 24 Tryd.underlying38 HI.out HZ0.out HZ1.out HZ2.out rfl (by decide) s vs.length vs rfl (O1.out.alloc _) ⟨w1.heap.size, 0, none⟩ 1 1 [.slice VA vn vc] rfl rfl HNW.out HON.out (by decide) (by unfold maxLen; omega) (by omega) (by have := G1.out.size; simp; omega) _ rfl ?_); intro k2 cap2 w2 own2 hg2 hat2 hk3; have HAT : Hid (∀ b, k2 = b → s.ownBlock = some b ∨ w.heap.size ≤ b) := (by show _; intro b eb; subst eb; rcases hat2 with h | h; exact .inl h; refine .inr ?_; have := G1.out.size; simp at h; omega); have R2 := Lib.hid ((R1.out.alloc (.cells #[.slice VA vn vc] 27)).grown hg2 (own_apart (O1.out.alloc (.cells #[.slice VA vn vc] 27)) (R1.out.alloc (.cells #[.slice VA vn vc] 27)) (by decide))); have c5 : w2.cell? ⟨g, 4, none⟩ = some s := R2.out.cell 4; have z5 : w2.frozen? ⟨g, 4, none⟩ = false := R2.out.frozen 4; have O2 := Lib.hid own2; clear hat2 hk3; clear own2)
  have R3 := Lib.hid (R2.out.put 4 (.slice (some ⟨k2, 0, none⟩) (vs.length + 1) cap2))
  have O3 := Lib.hid (own_put_other O2.out R2.out (by decide) 4 (.slice (some ⟨k2, 0, none⟩) (vs.length + 1) cap2))
  have G3 := Lib.hid (((G1.out.fst (grown_of_alloc w1 (.cells #[.slice VA vn vc] 27) (some g))).snd hg2).fst (put_grown w2 g 4 (.slice (some ⟨k2, 0, none⟩) (vs.length + 1) cap2)))
  clear R1 R2 O1 O2 G1 hg2 c4 c5 z5 HNW HON
  generalize w2.setCell ⟨g, 4, none⟩ (.slice (some ⟨k2, 0, none⟩) (vs.length + 1) cap2) = w3 at *
  refine (Add_any w3 g n hn (R3.out.cell 1) (R3.out.frozen 1)).mono ?_
  intro e w4 h
  obtain ⟨⟨x, he⟩, hw⟩ := h
  subst he
  have R4 := Lib.hid (R3.out.put 1 (.int .i64 ((n + 1 : Nat) : Int)))
  have O4 := Lib.hid (own_put_other O3.out R3.out (by decide) 1 (.int .i64 ((n + 1 : Nat) : Int)))
  have G4 := Lib.hid (G3.out.fst (put_grown w3 g 1 (.int .i64 ((n + 1 : Nat) : Int))))
  rw [← hw] at R4 O4 G4
  clear hw R3 O3 G3
  go_wp2_with fail
  refine leaves_cons (f := 49) (args := #[.pointer (some ⟨g, 2, none⟩)]) (by simp) (by simp [go_sem]) ?_
  refine (Go.MuLone.unlock_deferred muLib ⟨g, 2, none⟩ .returning _ (R4.out.cell 2) (R4.out.frozen 2)).mono ?_
  intro e u' w5 h
  obtain ⟨h1, h2, h3⟩ := h
  subst h1 h2 h3
  refine ⟨_, results_none rfl _ _ _, ⟨_, rfl⟩, _, R4.out.put 2 (.int .i32 0), own_put_other O4.out R4.out (by decide) 2 (.int .i32 0), G4.out.fst (put_grown _ g 2 (.int .i32 0)), fun b hb => HAT.out b (by simpa [Value.ownBlock] using hb)⟩
end Go.Proofs.YtckpnkohaaebdaaDoor
end
section
namespace Go.Proofs.YtckpnkohaaebdaaDoor
open Go.RowKit
set_option linter.unusedVariables false
set_option maxRecDepth 20000

/-- Rows behind a call that writes at two. -/
theorem RowAt.two {w w' : World} {a b : Option Nat} {x : Nat} {t : TypeId} {cs : Array Value} (h : RowAt w x t cs) (hg : GrownTwo w w' a b) (h1 : some x ≠ a) (h2 : some x ≠ b) : RowAt w' x t cs := (hg.block x h.lt h1 h2).trans h
theorem Tabs.two {w w' : World} {a b : Option Nat} (h : Tabs w) (hg : GrownTwo w w' a b) (h1 : some 0 ≠ a) (h2 : some 1 ≠ a) (h3 : some 0 ≠ b) (h4 : some 1 ≠ b) : Tabs w' :=
  ⟨fun j hj => (World.cell?_of_block (hg.block _ (World.block_lt_of_cell? w _ (h.cubes j hj)) h1 h3)).trans (h.cubes j hj), fun j hj => (World.cell?_of_block (hg.block _ (World.block_lt_of_cell? w _ (h.squares j hj)) h2 h4)).trans (h.squares j hj)⟩
/-- Rows of the call's own, of another type than the one that was written. -/
theorem own_two {w w' : World} {base base2 g n k : Nat} {t e : TypeId} {v s : Value} {xs ys : List Value} {cs : Array Value} (h : w.ownsRow base t 1 v n xs) (hr : RowAt w g 83 cs) (ho : w.ownsRow base2 e 1 s k ys) (hg : GrownTwo w w' (some g) s.ownBlock) (h1 : t ≠ 83) (h2 : t ≠ e) : w'.ownsRow base t 1 v n xs := by
  refine ⟨h.1, ?_⟩
  rcases h.2 with ⟨e1, e2⟩ | ⟨b, cap, cur, hv, hb, hk, h3⟩
  · exact .inl ⟨e1, e2⟩
  · refine .inr ⟨b, cap, cur, hv, hb, ?_, h3⟩
    have hlt : b < w.heap.size := by
      rcases Nat.lt_or_ge b w.heap.size with hl | hl
      · exact hl
      · rw [Array.getElem?_eq_none hl] at hk; cases hk
    refine (hg.block b hlt (fun e3 => ?_) (fun e3 => ?_)).trans hk
    · injection e3 with e3
      subst e3
      rw [hr] at hk
      injection hk with hk
      injection hk with _ h5
      exact h1 h5.symm
    · rcases ho.2 with ⟨rfl, _⟩ | ⟨b2, cap2, cur2, rfl, _, hk2, _⟩
      · simp [Value.ownBlock] at e3
      · have e4 : b = b2 := by simpa [Value.ownBlock] using e3
        subst e4
        rw [hk] at hk2
        injection hk2 with hk2
        injection hk2 with _ h5
        exact h2 h5

/-- What a call has of a Meter that it made, and that keeps what it digests. -/
structure MeetK (w0 : World) (g n : Nat) (ls : List (List UInt8)) (w : World) : Prop where
  below : Below w0.heap.size w0 w
  tabs0 : Tabs w0
  far : w0.heap.size ≤ g
  rows : ∃ s vs, RowAt w g 83 (meterC true n s) ∧ w.ownsRow w0.heap.size 27 1 s vs.length vs ∧ vs.length = ls.length ∧ ∀ j (h1 : j < vs.length) (h2 : j < ls.length), OwnB w w0.heap.size 5 vs[j] ls[j]
theorem MeetK.tabs {w0 w : World} {g n : Nat} {ls : List (List UInt8)} (h : MeetK w0 g n ls w) : Tabs w := h.tabs0.below h.below
theorem ownB_low {w : World} {base base2 : Nat} {e : TypeId} {v : Value} {l : List UInt8} (h : OwnB w base e v l) (hb : base2 ≤ base) : OwnB w base2 e v l := World.ownsRow.mono h hb
theorem MeetK.kept {w0 w w' : World} {g n : Nat} {ls : List (List UInt8)} (h : MeetK w0 g n ls w) (hb : Below w.heap.size w w') : MeetK w0 g n ls w' := by
  obtain ⟨s, vs, h1, h2, h3, h4⟩ := h.rows
  exact ⟨below_size h.below hb, h.tabs0, h.far, s, vs, h1.kept hb, World.ownsRow.kept (row := none) h2 ⟨hb.os, hb.tape, hb.output, hb.size, fun k hk _ => hb.block k hk⟩ (by cases s.ownBlock <;> simp), h3, fun j a b => (h4 j a b).below hb⟩
theorem MeetK.new {w0 w w' : World} {g : Nat} (ht : Tabs w0) (hb : Below w0.heap.size w0 w) (h : NewRow w g 83 (meterC true 0 (.slice none 0 0)) w') : MeetK w0 g 0 [] w' :=
  ⟨below_size hb h.below, ht, by rw [h.spot]; exact hb.size, _, [], h.row, World.ownsRow_nil _ _ _ _, rfl, fun j h1 => by simp at h1⟩
/-- What a Sum by such a Meter leaves as it was: rows that are older than the Meter's, or of another type; and bytes of the call's own. -/
structure LeftK (w w' : World) (g : Nat) : Prop where
  row : ∀ x t cs, x ≠ g → t ≠ 27 → RowAt w x t cs → RowAt w' x t cs
  size : w.heap.size ≤ w'.heap.size
  two : ∀ n0 s0, RowAt w g 83 (meterC true n0 s0) → GrownTwo w w' (some g) s0.ownBlock
  own : ∀ n0 s0 n1 s1, RowAt w g 83 (meterC true n0 s0) → RowAt w' g 83 (meterC true n1 s1) → ∀ b, s1.ownBlock = some b → s0.ownBlock = some b ∨ w.heap.size ≤ b
theorem GrownTwo.far {w w' w'' : World} {a b : Option Nat} {x : Nat} (h : GrownTwo w w' a b) (k : w'.grownBy w'' (some x)) (hx : w.heap.size ≤ x) : GrownTwo w w'' a b :=
  ⟨k.os.trans h.os, k.tape.trans h.tape, k.output.trans h.output, Nat.le_trans h.size k.size, fun i hi h1 h2 => (k.block i (Nat.lt_of_lt_of_le hi h.size) (by intro e; injection e with e; omega)).trans (h.block i hi h1 h2)⟩
theorem GrownTwo.behind {w w' w'' : World} {a b : Option Nat} (h : Below w.heap.size w w') (k : GrownTwo w' w'' a b) : GrownTwo w w'' a b :=
  ⟨k.os.trans h.os, k.tape.trans h.tape, k.output.trans h.output, Nat.le_trans h.size k.size, fun i hi h1 h2 => (k.block i (Nat.lt_of_lt_of_le hi h.size) h1 h2).trans (h.block i hi)⟩
theorem meterC_same {w : World} {g : Nat} {t : TypeId} {b b' : Bool} {n n' : Nat} {s s' : Value} (h : RowAt w g t (meterC b n s)) (h' : RowAt w g t (meterC b' n' s')) : s = s' := by
  have e1 : w.cell? ⟨g, 4, none⟩ = some s := h.cell 4
  have e2 : w.cell? ⟨g, 4, none⟩ = some s' := h'.cell 4
  rw [e1] at e2
  exact Option.some.inj e2

theorem MeetK.put {w0 w w' : World} {g n x : Nat} {t : TypeId} {old cs : Array Value} {ls : List (List UInt8)} (h : MeetK w0 g n ls w) (hr : RowAt w x t old) (p : PutRow w x t cs w') (h1 : x ≠ g) (h2 : w0.heap.size ≤ x) (h3 : t ≠ 27) (h4 : t ≠ 5) : MeetK w0 g n ls w' := by
  obtain ⟨s, vs, k1, k2, k3, k4⟩ := h.rows
  refine ⟨p.below h.below h.below.size h2, h.tabs0, h.far, s, vs, k1.grown p.grown (by intro e; injection e with e; exact h1 e.symm), World.ownsRow.kept k2 p.grown (.inr fun e => own_apart k2 hr h3 e.symm), k3, fun j a b => ?_⟩
  exact World.ownsRow.kept (k4 j a b) p.grown (.inr fun e => own_apart (k4 j a b) hr h4 e.symm)

set_option maxHeartbeats 1000000 in
theorem Sum_keep (w0 w : World) (g n : Nat) (v : Value) (old ls : List (List UInt8)) (hk : MeetK w0 g n old w) (hn : n ≤ 1000000000) (ho : old.length ≤ 1000000) (hb : Bss w v ls) (hl : ls.flatten.length ≤ 1000000) (hm : ls.length ≤ 1000000) :
    Calls Tryd.prog 21 #[.pointer (some ⟨g, 0, none⟩), v] w fun e w' => e = .returned (keyV (digestB ls.flatten)) ∧ MeetK w0 g (n + 1) (old ++ [ls.flatten]) w' ∧ LeftK w w' g := by
  have HK := Lib.hid hk
  have HT := Lib.hid hk.tabs
  have HB := Lib.hid hb
  have HK0 : Hid (w0.heap.size ≤ w.heap.size) := hk.below.size
  have hgl : g < w.heap.size := by obtain ⟨s, vs, h1, _⟩ := hk.rows; exact h1.lt
  have HD : Hid (∀ x, Tabs x → ∀ u, Bs x u ls.flatten → Calls Tryd.prog 45 #[u] x (RetV x (.agg (keyC (digestB ls.flatten))))) := fun x hx u hu => digest_any x hx u ls.flatten hu hl
  obtain ⟨fin, hfin⟩ : ∃ fin, fin = digestB ls.flatten := ⟨_, rfl⟩
  have HFL : Hid (fin.length = 32) := by show _ = _; rw [hfin, digestB_length]
  rw [← hfin] at HD ⊢
  have HJ := Lib.hid (fun x u hu => Join_own x u ls hu (by omega) (by omega))
  obtain ⟨inp, hinp⟩ : ∃ inp, inp = ls.flatten := ⟨_, rfl⟩
  rw [← hinp] at HD HJ ⊢
  have HIN := Lib.hid hinp
  clear hk hb hfin hinp
  go_enter Tryd.func21, Tryd.ntmps21
  go_wp2_with ((with_reducible refine wpList_alloc_row (o := ⟨some 4, _, _, _, _, _⟩) rfl 33 rfl (keyC zeroKey) Tryd.zeroK ?_); intro g1 w1 n1)
  refine (HJ.out _ _ (HB.out.keep n1.below)).mono ?_
  rintro e w2 ⟨u, rfl, hu, b2⟩
  have HU := Lib.hid hu.bs
  have HOU := Lib.hid hu
  have hb1 : w.heap.size ≤ w1.heap.size := n1.below.size
  obtain ⟨UA, UC, rfl, _, _⟩ := hu.shape
  have R1 := Lib.hid (n1.row.kept b2)
  have B2 := Lib.hid (below_size n1.below b2)
  have hg1 : w.heap.size ≤ g1 := Nat.le_of_eq n1.spot.symm
  clear n1 b2 hu HB HJ
  go_wp2_with fail
  refine (HD.out _ (HT.out.below B2.out) _ HU.out).mono ?_
  rintro e w3 ⟨rfl, b3⟩
  have R13 := Lib.hid (R1.out.kept b3)
  have B3 := Lib.hid (below_size B2.out b3)
  have B23 := Lib.hid b3
  clear b3 R1 B2 HU HD
  go_wp2_with (first
    | ((with_reducible refine wpList_alloc_row (o := ⟨some 6, _, _, _, _, _⟩) rfl 33 rfl (keyC zeroKey) Tryd.zeroK ?_); intro g4 w4 n4)
    | ((with_reducible refine wpList_store_row (o := ⟨none, _, _, _, _, _⟩) rfl 33 (.tmp 6) (.tmp 10) rfl g4 33 _ (keyC fin) (by with_unfolding_all rfl) (by with_unfolding_all rfl) n4.row (keyC_same zeroKey_length HFL.out) (Tryd.sizeKey fin HFL.out) (keyC_one fin) ?_); intro w5 p5))
  have b5 := (laid_put n4 p5).1
  have B5 := Lib.hid (below_size B3.out b5)
  have R15 := Lib.hid (R13.out.kept b5)
  have R45 := Lib.hid p5.row
  have hg4 : w.heap.size ≤ g4 := by rw [n4.spot]; exact B3.out.size
  have HO5 := Lib.hid ((HOU.out.below B23.out).below b5)
  have K5 := Lib.hid (HK.out.kept B5.out)
  clear b5 n4 p5 B3 R13 HOU B23 HK
  obtain ⟨s, vs, k1, k2, k3, k4⟩ := K5.out.rows
  have hw0 : w0.heap.size ≤ w5.heap.size := K5.out.below.size
  have K1 := Lib.hid k1
  have K2 := Lib.hid k2
  have K3 := Lib.hid k3
  have K4 := Lib.hid k4
  have hvl : vs.length ≤ 1000000 := by omega
  clear k1 k2 k3 k4
  refine (note_keep _ g n w0.heap.size s UA inp.length UC vs hn K1.out K2.out hw0 hvl).mono ?_
  intro e w6 h
  obtain ⟨⟨xe, he⟩, s6, hr6, ho6, hg6, ht6⟩ := h
  subst he
  have h1s := own_apart K2.out R15.out (by decide)
  have h4s := own_apart K2.out R45.out (by decide)
  have R16 := Lib.hid (R15.out.two hg6 (by intro e; injection e with e; omega) h1s)
  have R46 := Lib.hid (R45.out.two hg6 (by intro e; injection e with e; omega) h4s)
  have M6 : Hid (MeetK w0 g (n + 1) (old ++ [inp]) w6) := by
    refine ⟨?_, K5.out.tabs0, K5.out.far, s6, vs ++ [.slice UA inp.length UC], hr6, by rw [List.length_append]; exact ho6, by simp [K3.out], ?_⟩
    · refine ⟨hg6.os.trans K5.out.below.os, hg6.tape.trans K5.out.below.tape, hg6.output.trans K5.out.below.output, Nat.le_trans K5.out.below.size hg6.size, fun i hi => (hg6.block i (Nat.lt_of_lt_of_le hi hw0) (fun e => ?_) (fun e => ?_)).trans (K5.out.below.block i hi)⟩
      · injection e with e
        have := K5.out.far
        omega
      · have := (World.ownsRow.lt K2.out i e.symm).1
        omega
    · intro j h1 h2
      rcases Nat.lt_or_ge j vs.length with hlt | hge
      · rw [List.getElem_append_left hlt, List.getElem_append_left (by rw [← K3.out]; exact hlt)]
        exact own_two (K4.out j hlt (by rw [← K3.out]; exact hlt)) K1.out K2.out hg6 (by decide) (by decide)
      · have hj : j = vs.length := by simp at h1; omega
        subst hj
        have e2 : (old ++ [inp])[vs.length]'h2 = inp := by simp [K3.out]
        rw [List.getElem_concat_length rfl, e2]
        exact own_two (ownB_low HO5.out (Nat.le_trans (Nat.le_trans HK0.out hb1) (Nat.le_refl _))) K1.out K2.out hg6 (by decide) (by decide)
  have L6 : Hid (LeftK w w6 g) := by
    refine ⟨fun x t cs hx ht hr => ?_, Nat.le_trans B5.out.size hg6.size, fun n0 s0 h0 => ?_, fun n0 s0 n1 s1 h0 h1 b hb => ?_⟩
    · have hr5 := hr.kept B5.out
      exact hr5.two hg6 (by intro e; injection e with e; exact hx e) (own_apart K2.out hr5 ht)
    · rw [meterC_same (h0.kept B5.out) K1.out]
      exact hg6.behind B5.out
    · rw [meterC_same h1 hr6] at hb
      rw [meterC_same (h0.kept B5.out) K1.out]
      exact (ht6 b hb).imp id (fun h => Nat.le_trans B5.out.size h)
  clear hr6 ho6 hg6 ht6 h1s h4s R15 R45 B5 K1 K2 K3 K4 K5 HO5
  go_wp2_with (first
    | (with_reducible refine wpList_load_row (o := ⟨some 14, _, _, _, _, _⟩) rfl 33 (.tmp 6) rfl g4 (by with_unfolding_all rfl) 33 (keyC fin) (0, 0) (.array 32 5) (by with_unfolding_all exact R46.out) Tryd.underlying33 rfl (Tryd.sizeKey fin HFL.out) ?_)
    | ((with_reducible refine wpList_store_row (o := ⟨none, _, _, _, _, _⟩) rfl 33 (.tmp 4) (.tmp 14) rfl g1 33 _ (keyC fin) (by with_unfolding_all rfl) (by with_unfolding_all rfl) R16.out (keyC_same zeroKey_length HFL.out) (Tryd.sizeKey fin HFL.out) (keyC_one fin) ?_); intro w9 p9))
  refine bodyPost_ret (results_cell_row rfl _ _ g1 33 (keyC fin) (0, 0) (.array 32 5) rfl p9.row Tryd.underlying33 rfl (Tryd.sizeKey fin HFL.out)) rfl ⟨rfl, ?_, ?_⟩
  · exact M6.out.put R16.out p9 (by omega) (by have := HK0.out; omega) (by decide) (by decide)
  · have q := p9.grown
    refine ⟨fun x t cs hx ht hr => (L6.out.row x t cs hx ht hr).grown q (by intro e; injection e with e; have := hr.lt; omega), Nat.le_trans L6.out.size q.size, fun n0 s0 h0 => (L6.out.two n0 s0 h0).far q hg1, fun n0 s0 n1 s1 h0 h1 b hb => ?_⟩
    obtain ⟨s7, vs7, k1, _⟩ := M6.out.rows
    have k2 : RowAt w9 g 83 (meterC true (n + 1) s7) := k1.grown q (by intro e; injection e with e; omega)
    rw [meterC_same h1 k2] at hb
    exact L6.out.own n0 s0 (n + 1) s7 h0 k1 b hb

end Go.Proofs.YtckpnkohaaebdaaDoor
end
section
namespace Go.Proofs.YtckpnkohaaebdaaDoor
set_option linter.unusedVariables false

section
variable {P : Program} {ops : Array Oper} {md : Region.Mode} {C : World → Prop}

/-- In whatever order the first operations come up, each is quiet; behind them L. -/
def headQ (P : Program) (md : Region.Mode) (ops : Array Oper) (C : World → Prop) (n : Nat) (L : Array Bool → Act → Prop) : Nat → Array Bool → Act → Prop
  | 0 => L
  | f + 1 => fun listed a => Region.ready md ops listed ≠ [] ∧ ∀ i ∈ Region.ready md ops listed, i < n ∧ qOp P ops C i (headQ P md ops C n L f (listed.setIfInBounds i true)) a

theorem any_of_headQ {n g : Nat} {L : Array Bool → Act → Prop} {Q : Exit → Act → World → Prop} (hL : ∀ listed a w, C w → L listed a → wpAny P md ops Q g listed a w) (f : Nat) :
    ∀ (listed : Array Bool) (a : Act) (w : World), C w → headQ P md ops C n L f listed a → wpAny P md ops Q (f + g) listed a w := by
  induction f with
  | zero => intro listed a w hw h; rw [Nat.zero_add]; exact hL _ _ _ hw h
  | succ f ih =>
    intro listed a w hw h
    rw [show f + 1 + g = (f + g) + 1 by omega]
    exact ⟨fun h0 => absurd h0 h.1, fun i hi => wpOp_of_qOp hw (fun a' w' hw' h' => ih _ a' w' hw' h') (h.2 i hi).2⟩

/-- What of the head is ready may be taken first. -/
theorem headQ_first {n i : Nat} {oi : Oper} {v : Value} {L : Array Bool → Act → Prop} (hi : ops[i]? = some oi) (hsel : ∀ (j : Nat) (o : Oper) cs b, ops[j]? = some o → o.op ≠ .select cs b)
    (hs : Region.sinkB md ops n = true) (hc : Region.chainB md ops n = true) (hn : n < ops.size) (hin : i < n)
    (hdone : ∀ listed a, L listed a → ∀ j ∈ Region.ready md ops listed, n ≤ j) (f : Nat) :
    ∀ (listed : Array Bool) (a : Act), HeadInv md ops n listed →
      (∀ j oj, ops[j]? = some oj → j ≠ i → listed.getD j true = false → (∀ e ∈ oj.after, Region.binds md e = true → e.on ≠ i) → oi.apart ops oj = true) →
      i ∈ Region.ready md ops listed → YieldsIn P ops C oi v a →
      headQ P md ops C n L f (listed.setIfInBounds i true) (a.put oi.dst v) → headQ P md ops C n L (f + 1) listed a := by
  induction f with
  | zero =>
    intro listed a inv _ hr hy H
    refine ⟨fun h0 => (by rw [h0] at hr; cases hr), fun j hj => ?_⟩
    have hlt : j < n := Nat.lt_of_not_le fun hge => tail_waits hs hc hn inv _ i rfl hin (mem_ready.1 hr).1 j hge hj
    refine ⟨hlt, ?_⟩
    by_cases e : j = i
    · rw [e]; exact hy.qOp hi H
    · exact absurd hlt (Nat.not_lt.2 (hdone _ _ H j (ready_mono hj e)))
  | succ f ih =>
    intro listed a inv free hr hy H
    refine ⟨fun h0 => (by rw [h0] at hr; cases hr), fun j hj => ?_⟩
    have hlt : j < n := Nat.lt_of_not_le fun hge => tail_waits hs hc hn inv _ i rfl hin (mem_ready.1 hr).1 j hge hj
    refine ⟨hlt, ?_⟩
    by_cases e : j = i
    · rw [e]; exact hy.qOp hi H
    · obtain ⟨hun, oj, hoj, hall⟩ := mem_ready.1 hj
      have hno : ∀ x ∈ oj.after, Region.binds md x = true → x.on ≠ i := fun x hx hb hon => by
        have h1 := hall x hx hb
        rw [hon, getD_both (mem_ready.1 hr).1] at h1
        cases h1
      have hboth := qOp_put hoj (free j oj hoj e hun hno) (fun cs b => hsel i oi cs b hi) (fun cs b => hsel j oj cs b hoj) hy (H.2 j (ready_mono hj e)).2
      refine qOp_mono (fun a' h3 => ?_) hboth
      refine ih _ a' (inv.set hj hlt) (fun k ok hk hki hkun hkno => ?_) (ready_mono hr (Ne.symm e)) h3.1 ?_
      · refine free k ok hk hki ?_ hkno
        rcases Nat.decEq j k with hne | heq
        · rwa [getD_set_ne true hne] at hkun
        · rw [← heq]; exact hun
      · rw [Array.setIfInBounds_comm _ _ e]; exact h3.2

theorem headQ_lex {n g : Nat} {K : Act → Prop} (hsel : Region.noSelect ops = true) (hs : Region.sinkB md ops n = true) (hc : Region.chainB md ops n = true) (hn : n < ops.size) (l : List Oper) :
    ∀ (k : Nat) (listed : Array Bool) (a : Act), (∀ j, j < l.length → l[j]? = ops[k + j]?) → k + l.length = n → HeadInv md ops n listed →
    Region.lexHead md ops g l.length k listed = true → wpQuiet P ops C K l a →
    headQ P md ops C n (fun listed' a' => Region.seqB md ops g n listed' = true ∧ K a') l.length listed a := by
  induction l with
  | nil =>
    intro k listed a _ hk _ hB h
    obtain rfl : k = n := by simpa using hk
    exact ⟨by simpa [Region.lexHead] using hB, h⟩
  | cons o l ih =>
    intro k listed a hl hk inv hB h
    simp only [List.length_cons, Region.lexHead, Bool.and_eq_true] at hB hk
    have h0 : ops[k]? = some o := by simpa using (hl 0 (by simp)).symm
    have hst : qOp P ops C k (wpQuiet P ops C K l) a := by unfold qOp; simp only [h0]; exact h
    obtain ⟨v, hy, hK⟩ := yieldsIn_of_qOp h0 hst
    have hr : k ∈ Region.ready md ops listed := by simpa using hB.1.1
    refine headQ_first h0 (Region.noSelect_spec hsel) hs hc hn (by omega) (fun _ _ hL => seqB_ready hL.1) l.length listed a inv (Region.free_spec h0 hB.1.2) hr hy ?_
    refine ih (k + 1) _ _ (fun j hj => ?_) (by omega) (inv.set hr (by omega)) hB.2 hK
    have := hl (j + 1) (by simp; omega)
    simpa [Nat.add_assoc, Nat.add_comm 1 j] using this

/-- THE WAY IN: the first n operations quiet in 'w after some draws', walked in the text's order; the others in one row. -/
theorem region_quiet_tail {id : Nat} {Q : Exit → Act → World → Prop} {a : Act} {w : World} {l : List Oper} (n : Nat) (hm : P.follows .mixedOrders = true) (hB : Region.lexTailB .any l.toArray n = true)
    (h : wpQuiet P l.toArray (fun w' => ∃ n, w' = w.drewN n) (fun a' => ∀ w', (∃ n, w' = w.drewN n) → wpList P l.toArray Q (l.drop n) a' w') (l.take n) a) : (Code.region id l.toArray true).wp P Q a w := by
  simp only [Region.lexTailB, Bool.and_eq_true, decide_eq_true_eq] at hB
  obtain ⟨⟨⟨⟨hsel, hn⟩, hs⟩, hc⟩, hlex⟩ := hB
  have hn' : n < l.length := by simpa using hn
  have htl : (l.take n).length = n := by rw [List.length_take]; omega
  have hdl : (l.drop n).length = l.toArray.size - n := by simp
  have H := headQ_lex (md := .any) (g := l.toArray.size - n) hsel hs hc hn (l.take n) 0 (Array.replicate l.toArray.size false) a
    (fun j hj => by rw [htl] at hj; simp [hj]) (by rw [htl]; omega)
    ⟨by simp, fun j oj _ hl => (by rw [getD_replicate_false] at hl; cases hl), fun t _ ht => getD_in (by simpa using ht) (getD_replicate_false _ _)⟩ (by rw [htl]; exact hlex) h
  refine wp_region_any hm ?_
  have A := any_of_headQ (Q := Q) (g := l.toArray.size - n) (fun listed a' w' hw' hL => by
    have := wpAny_of_seq (md := .any) (Q' := Q) (l.drop n) n listed a' w' (fun j => by simp [List.getElem?_drop]) (by rw [hdl]; exact hL.1) (hL.2 w' hw')
    rwa [hdl] at this) (l.take n).length _ _ { w with drawn := w.drawn + 1 } ⟨1, rfl⟩ H
  rw [htl, show n + (l.toArray.size - n) = l.toArray.size by omega] at A
  exact A
end
end Go.Proofs.YtckpnkohaaebdaaDoor
end
section
namespace Go.Proofs.YtckpnkohaaebdaaDoor
open Go.RowKit
set_option linter.unusedVariables false
set_option maxRecDepth 20000

theorem rot_int2 (x : UInt32) (n m : Nat) (hm : m + n = 32) : bits .or .u32 ((x.toNat : Int) / 2 ^ n) ((x.toNat : Int) * 2 ^ m % 4294967296) = ((rotr x n).toNat : Int) := by
  have e1 : (x.toNat : Int) * 2 ^ m % 4294967296 = ((x.toNat * 2 ^ m % 4294967296 : Nat) : Int) := by simp
  have e2 : (x.toNat : Int) / 2 ^ n = ((x.toNat / 2 ^ n : Nat) : Int) := by simp
  rw [e1, e2, u32_or_nat _ _ (div_lt32 x n) (Nat.mod_lt _ (by omega)), rotr_toNat, Nat.or_comm, show 32 - n = m by omega]

theorem turn_any (w : World) (x : UInt32) (n : Nat) (h1 : 1 ≤ n) (h2 : n ≤ 31) :
    Calls Tryd.prog 42 #[.int .u32 (x.toNat : Int), .int .i64 (n : Int)] w fun e w' => e = .returned (.int .u32 ((rotr x n).toNat : Int)) ∧ ∃ n, w' = w.drewN n := by
  have hx := x.toNat_lt
  obtain ⟨m, hm⟩ : ∃ m, m + n = 32 := ⟨32 - n, by omega⟩
  have hs2 : IntKind.i64.wrap (32 - (n : Int)) = (m : Int) := by rw [IntWalk.i64_in _ (by omega)]; omega
  have hle : (n : Int) ≤ 32 := by omega
  go_enter Tryd.func42, Tryd.ntmps42
  go_wp2
  go_quiet (fail)
  go_wp2
  go_ret
  exact ⟨ret_int (rot_int2 x n m hm), _, rfl⟩

/-- Four bytes as a word, the highest one first. -/
def word4 (a b c d : UInt8) : UInt32 := UInt32.ofNat (((a.toNat * 256 + b.toNat) * 256 + c.toNat) * 256 + d.toNat)
theorem word4_toNat (a b c d : UInt8) : (word4 a b c d).toNat = ((a.toNat * 256 + b.toNat) * 256 + c.toNat) * 256 + d.toNat := by
  have := a.toNat_lt
  have := b.toNat_lt
  have := c.toNat_lt
  have := d.toNat_lt
  exact UInt32.toNat_ofNat_of_lt' (by show _ < 4294967296; omega)
theorem or_sum (x y n : Nat) (hy : y < 2 ^ n) : x * 2 ^ n ||| y = x * 2 ^ n + y := by
  rw [Nat.mul_comm, Nat.two_pow_add_eq_or_of_lt hy]
theorem word4_or (a b c d : UInt8) : ((a.toNat * 16777216 ||| b.toNat * 65536) ||| c.toNat * 256) ||| d.toNat = (word4 a b c d).toNat := by
  have := a.toNat_lt
  have := b.toNat_lt
  have := c.toNat_lt
  have := d.toNat_lt
  rw [word4_toNat, show a.toNat * 16777216 = a.toNat * 2 ^ 24 by omega, or_sum _ _ _ (by omega), show a.toNat * 2 ^ 24 + b.toNat * 65536 = (a.toNat * 256 + b.toNat) * 2 ^ 16 by omega, or_sum _ _ _ (by omega),
    show (a.toNat * 256 + b.toNat) * 2 ^ 16 + c.toNat * 256 = ((a.toNat * 256 + b.toNat) * 256 + c.toNat) * 2 ^ 8 by omega, or_sum _ _ _ (by omega)]
theorem wordOf_four (block : List UInt8) (k : Nat) (h : 4 * k + 4 ≤ block.length) :
    wordOf block k = word4 (block[4 * k]'(by omega)) (block[4 * k + 1]'(by omega)) (block[4 * k + 2]'(by omega)) (block[4 * k + 3]'(by omega)) := by
  have e : (block.drop (4 * k)).take 4 = [block[4 * k]'(by omega), block[4 * k + 1]'(by omega), block[4 * k + 2]'(by omega), block[4 * k + 3]'(by omega)] := by
    rw [List.drop_eq_getElem_cons (by omega), List.drop_eq_getElem_cons (by omega), List.drop_eq_getElem_cons (by omega), List.drop_eq_getElem_cons (by omega)]
    rfl
  rw [wordOf, e, word4]
  congr 1
  simp [ofHighB, ofLowB]
  omega
theorem Tryd.litsK : Value.agg #[.int .u32 1116352408, .int .u32 1899447441, .int .u32 3049323471, .int .u32 3921009573, .int .u32 961987163, .int .u32 1508970993, .int .u32 2453635748, .int .u32 2870763221, .int .u32 3624381080, .int .u32 310598401, .int .u32 607225278, .int .u32 1426881987, .int .u32 1925078388, .int .u32 2162078206, .int .u32 2614888103, .int .u32 3248222580, .int .u32 3835390401, .int .u32 4022224774, .int .u32 264347078, .int .u32 604807628, .int .u32 770255983, .int .u32 1249150122, .int .u32 1555081692, .int .u32 1996064986, .int .u32 2554220882, .int .u32 2821834349, .int .u32 2952996808, .int .u32 3210313671, .int .u32 3336571891, .int .u32 3584528711, .int .u32 113926993, .int .u32 338241895, .int .u32 666307205, .int .u32 773529912, .int .u32 1294757372, .int .u32 1396182291, .int .u32 1695183700, .int .u32 1986661051, .int .u32 2177026350, .int .u32 2456956037, .int .u32 2730485921, .int .u32 2820302411, .int .u32 3259730800, .int .u32 3345764771, .int .u32 3516065817, .int .u32 3600352804, .int .u32 4094571909, .int .u32 275423344, .int .u32 430227734, .int .u32 506948616, .int .u32 659060556, .int .u32 883997877, .int .u32 958139571, .int .u32 1322822218, .int .u32 1537002063, .int .u32 1747873779, .int .u32 1955562222, .int .u32 2024104815, .int .u32 2227730452, .int .u32 2361852424, .int .u32 2428436474, .int .u32 2756734187, .int .u32 3204031479, .int .u32 3329325298] = .agg (wordsC cubesW) := by kernel_rfl
theorem word4_bits (a b c d : UInt8) : bits .or .u32 (bits .or .u32 (bits .or .u32 (IntKind.u32.wrap (IntKind.u32.wrap (a.toNat : Int) * 16777216)) (IntKind.u32.wrap (IntKind.u32.wrap (b.toNat : Int) * 65536))) (IntKind.u32.wrap (IntKind.u32.wrap (c.toNat : Int) * 256))) (IntKind.u32.wrap (d.toNat : Int)) = ((word4 a b c d).toNat : Int) := by
  have ha := a.toNat_lt
  have hb := b.toNat_lt
  have hc := c.toNat_lt
  have hd := d.toNat_lt
  have e1 : IntKind.u32.wrap (IntKind.u32.wrap (a.toNat : Int) * 16777216) = ((a.toNat * 16777216 : Nat) : Int) := by simp only [IntKind.wrap_u32]; omega
  have e2 : IntKind.u32.wrap (IntKind.u32.wrap (b.toNat : Int) * 65536) = ((b.toNat * 65536 : Nat) : Int) := by simp only [IntKind.wrap_u32]; omega
  have e3 : IntKind.u32.wrap (IntKind.u32.wrap (c.toNat : Int) * 256) = ((c.toNat * 256 : Nat) : Int) := by simp only [IntKind.wrap_u32]; omega
  have e4 : IntKind.u32.wrap (d.toNat : Int) = (d.toNat : Int) := by simp only [IntKind.wrap_u32]; omega
  rw [e1, e2, e3, e4, u32_or_nat _ _ (by omega) (by omega), u32_or_nat _ _ (or_lt32 (by omega) (by omega)) (by omega), u32_or_nat _ _ (or_lt32 (or_lt32 (by omega) (by omega)) (by omega)) (by omega), word4_or]
theorem wrap32 (x : UInt32) : IntKind.u32.wrap (x.toNat : Int) = (x.toNat : Int) := by have := x.toNat_lt; rw [IntKind.wrap_u32]; omega
theorem sum5 (a b c d e : UInt32) : (((a.toNat : Int) + b.toNat + c.toNat + d.toNat) % 4294967296 + e.toNat) % 4294967296 = ((a + b + c + d + e).toNat : Int) := by
  simp only [UInt32.toNat_add]
  omega
theorem sum3 (a b c : UInt32) : ((a.toNat : Int) + b.toNat + c.toNat) % 4294967296 = ((a + b + c).toNat : Int) := by
  simp only [UInt32.toNat_add]
  omega
theorem movr8 (x : UInt32) : (x.toNat : Int) / 8 = ((movr x 3).toNat : Int) := by rw [movr_toNat]; simp
theorem movr1024 (x : UInt32) : (x.toNat : Int) / 1024 = ((movr x 10).toNat : Int) := by rw [movr_toNat]; simp
end Go.Proofs.YtckpnkohaaebdaaDoor
end
