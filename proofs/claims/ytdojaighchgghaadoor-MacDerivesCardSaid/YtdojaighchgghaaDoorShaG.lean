/-
  Contracts of sha.New, and of note where nothing is kept. Conditions: as each theorem names them.
-/
import Derived.Test.YtdojaighchgghaaDoorShaF
import Derived.Laws.LoneSync
namespace Go.Proofs.YtdojaighchgghaaDoor
open Go.RowKit
set_option linter.unusedVariables false
set_option maxRecDepth 20000

/-- What a Meter holds. -/
def meterC (keep : Bool) (n : Nat) (s : Value) : Array Value := #[.bool keep, .int .i64 (n : Int), .int .i32 0, .int .u32 0, s]

set_option maxHeartbeats 400000 in
theorem New_any (w : World) (keep : Bool) :
    Calls Tryd.prog 20 #[.bool keep] w fun e w' => ∃ g, e = .returned (.pointer (some ⟨g, 0, none⟩)) ∧ NewRow w g 83 (meterC keep 0 (.slice none 0 0)) w' := by
  go_enter Tryd.func20, Tryd.ntmps20
  go_wp2
  go_ret
  exact ⟨_, rfl, NewRow.mk_ w 83 (meterC keep 0 (.slice none 0 0))⟩

set_option maxHeartbeats 400000 in
theorem note_nil (w : World) (v : Value) :
    Calls Tryd.prog 46 #[.pointer none, v] w fun e w' => (∃ x, e = .returned x) ∧ w' = w := by
  go_enter Tryd.func46, Tryd.ntmps46
  go_wp2
  first | go_end0 | refine bodyPost_ret (results_none rfl _ _ _) rfl ?_
  all_goals exact ⟨⟨_, rfl⟩, rfl⟩

set_option maxHeartbeats 400000 in
theorem note_count (w : World) (g n : Nat) (s v : Value) (hn : n ≤ 1000000000) (hr : RowAt w g 83 (meterC false n s)) :
    Calls Tryd.prog 46 #[.pointer (some ⟨g, 0, none⟩), v] w fun e w' => (∃ x, e = .returned x) ∧ RowAt w' g 83 (meterC false (n + 1) s) ∧ w.grownBy w' (some g) := by
  have c0 : w.cell? ⟨g, 0, none⟩ = some (.bool false) := hr.cell 0
  have c1 : w.cell? ⟨g, 1, none⟩ = some (.int .i64 (n : Int)) := hr.cell 1
  have z1 : w.frozen? ⟨g, 1, none⟩ = false := hr.frozen 1
  have hadd := run_call_add (P := Tryd.prog) Tryd.func72 (by kernel_rfl) (by kernel_rfl) (by kernel_rfl) .i64 (by kernel_rfl) (y := 1) (s := ((n + 1 : Nat) : Int)) c1 z1 (by simp [go_sem]; rw [IntWalk.i64_in _ (by omega)])
  have hput := hr.put 1 (.int .i64 ((n + 1 : Nat) : Int))
  have HP : Hid (RowAt (w.setCell ⟨g, 1, none⟩ (.int .i64 ((n + 1 : Nat) : Int))) g 83 (meterC false (n + 1) s)) := hput
  clear hput hr
  go_enter Tryd.func46, Tryd.ntmps46
  go_wp2
  go_end0
  have hp := HP.out
  rw [show ((n + 1 : Nat) : Int) = (n : Int) + 1 by omega] at hp
  exact ⟨⟨_, rfl⟩, hp, ⟨rfl, rfl, rfl, by simp, fun k _ hne => heap_setCell_other w _ k _ (fun h => hne (by rw [h]))⟩⟩

theorem Tabs.grown {w w' : World} {row : Option Nat} (h : Tabs w) (hg : w.grownBy w' row) (h1 : some 0 ≠ row) (h2 : some 1 ≠ row) : Tabs w' :=
  ⟨fun j hj => (World.cell?_of_block (hg.block _ (World.block_lt_of_cell? w _ (h.cubes j hj)) h1)).trans (h.cubes j hj), fun j hj => (World.cell?_of_block (hg.block _ (World.block_lt_of_cell? w _ (h.squares j hj)) h2)).trans (h.squares j hj)⟩
/-- A Meter is no table. -/
theorem Tabs.apart {w : World} (h : Tabs w) {g n : Nat} {t : TypeId} {keep : Bool} {s : Value} (hr : RowAt w g t (meterC keep n s)) : g ≠ 0 ∧ g ≠ 1 := by
  constructor
  · intro e
    subst e
    have h0 := h.cubes 0 (by omega)
    rw [hr.cell 0] at h0
    simp [meterC] at h0
  · intro e
    subst e
    have h0 := h.squares 0 (by omega)
    rw [hr.cell 0] at h0
    simp [meterC] at h0

set_option maxHeartbeats 1000000 in
theorem Sum_count (w : World) (ht : Tabs w) (g n : Nat) (s v : Value) (ls : List (List UInt8)) (hn : n ≤ 1000000000) (hr : RowAt w g 83 (meterC false n s)) (hb : Bss w v ls) (hl : ls.flatten.length ≤ 1000000) (hm : ls.length ≤ 1000000) :
    Calls Tryd.prog 21 #[.pointer (some ⟨g, 0, none⟩), v] w fun e w' => e = .returned (keyV (digestB ls.flatten)) ∧ RowAt w' g 83 (meterC false (n + 1) s) ∧ w.grownBy w' (some g) := by
  have HT := Lib.hid ht
  have HR := Lib.hid hr
  have HB := Lib.hid hb
  have hgl := hr.lt
  have HD : Hid (∀ x, Tabs x → ∀ u, Bs x u ls.flatten → Calls Tryd.prog 45 #[u] x (RetV x (.agg (keyC (digestB ls.flatten))))) := fun x hx u hu => digest_any x hx u ls.flatten hu hl
  obtain ⟨fin, hfin⟩ : ∃ fin, fin = digestB ls.flatten := ⟨_, rfl⟩
  have HFL : Hid (fin.length = 32) := by show _ = _; rw [hfin, digestB_length]
  rw [← hfin] at HD ⊢
  have HJ := Lib.hid (fun x u hu => Join_any x u ls hu (by omega) (by omega))
  clear ht hr hb hfin
  go_enter Tryd.func21, Tryd.ntmps21
  go_wp2_with ((with_reducible refine wpList_alloc_row (o := ⟨some 4, _, _, _, _, _⟩) rfl 33 rfl (keyC zeroKey) Tryd.zeroK ?_); intro g1 w1 n1)
  refine (HJ.out _ _ (HB.out.keep n1.below)).mono ?_
  rintro e w2 ⟨u, rfl, hu, b2⟩
  have HU := Lib.hid hu
  have R1 := Lib.hid (n1.row.kept b2)
  have B2 := Lib.hid (below_size n1.below b2)
  have hg1 : w.heap.size ≤ g1 := Nat.le_of_eq n1.spot.symm
  clear n1 b2 hu HB HJ
  go_wp2_with fail
  refine (HD.out _ (HT.out.below B2.out) _ HU.out).mono ?_
  rintro e w3 ⟨rfl, b3⟩
  have R13 := Lib.hid (R1.out.kept b3)
  have B3 := Lib.hid (below_size B2.out b3)
  clear b3 R1 B2 HU HD
  go_wp2_with (first
    | ((with_reducible refine wpList_alloc_row (o := ⟨some 6, _, _, _, _, _⟩) rfl 33 rfl (keyC zeroKey) Tryd.zeroK ?_); intro g4 w4 n4)
    | ((with_reducible refine wpList_store_row (o := ⟨none, _, _, _, _, _⟩) rfl 33 (.tmp 6) (.tmp 10) rfl g4 33 _ (keyC fin) (by with_unfolding_all rfl) (by with_unfolding_all rfl) n4.row (keyC_same zeroKey_length HFL.out) (Tryd.sizeKey fin HFL.out) (keyC_one fin) ?_); intro w5 p5))
  have b5 := (laid_put n4 p5).1
  have B5 := Lib.hid (below_size B3.out b5)
  have R15 := Lib.hid (R13.out.kept b5)
  have R45 := Lib.hid p5.row
  have hg4 : w.heap.size ≤ g4 := by rw [n4.spot]; exact B3.out.size
  clear b5 n4 p5 B3 R13
  refine (note_count _ g n s _ hn (HR.out.kept B5.out)).mono ?_
  rintro e w6 ⟨⟨xe, rfl⟩, hr6, hg6⟩
  have G6 : Hid (w.grownBy w6 (some g)) := ⟨hg6.os.trans B5.out.os, hg6.tape.trans B5.out.tape, hg6.output.trans B5.out.output, Nat.le_trans B5.out.size hg6.size, fun k hk hne => (hg6.block k (Nat.lt_of_lt_of_le hk B5.out.size) hne).trans (B5.out.block k hk)⟩
  have R16 := Lib.hid (R15.out.grown hg6 (by intro e; injection e with e; omega))
  have R46 := Lib.hid (R45.out.grown hg6 (by intro e; injection e with e; omega))
  have HR6 := Lib.hid hr6
  clear hr6 hg6 R15 R45 B5
  go_wp2_with (first
    | (with_reducible refine wpList_load_row (o := ⟨some 14, _, _, _, _, _⟩) rfl 33 (.tmp 6) rfl g4 (by with_unfolding_all rfl) 33 (keyC fin) (0, 0) (.array 32 5) (by with_unfolding_all exact R46.out) Tryd.underlying33 rfl (Tryd.sizeKey fin HFL.out) ?_)
    | ((with_reducible refine wpList_store_row (o := ⟨none, _, _, _, _, _⟩) rfl 33 (.tmp 4) (.tmp 14) rfl g1 33 _ (keyC fin) (by with_unfolding_all rfl) (by with_unfolding_all rfl) R16.out (keyC_same zeroKey_length HFL.out) (Tryd.sizeKey fin HFL.out) (keyC_one fin) ?_); intro w9 p9))
  refine bodyPost_ret (results_cell_row rfl _ _ g1 33 (keyC fin) (0, 0) (.array 32 5) rfl p9.row Tryd.underlying33 rfl (Tryd.sizeKey fin HFL.out)) rfl ⟨rfl, HR6.out.grown p9.grown (by intro e; injection e with e; omega), ?_⟩
  have q := p9.grown
  exact ⟨q.os.trans G6.out.os, q.tape.trans G6.out.tape, q.output.trans G6.out.output, Nat.le_trans G6.out.size q.size, fun k hk hne => (q.block k (Nat.lt_of_lt_of_le hk G6.out.size) (by intro e; injection e with e; omega)).trans (G6.out.block k hk hne)⟩
end Go.Proofs.YtdojaighchgghaaDoor
