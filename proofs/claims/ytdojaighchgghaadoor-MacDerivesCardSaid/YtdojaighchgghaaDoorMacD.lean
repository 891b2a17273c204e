/-
  The document's own Log that keeps nothing: what it is through calls; contract of its Sum. Conditions: as each theorem names them.
-/
import Derived.Test.YtdojaighchgghaaDoorMacB
namespace Go.Proofs.YtdojaighchgghaaDoor
open Go.RowKit
set_option linter.unusedVariables false
set_option maxRecDepth 20000

/-- What a Log that keeps nothing holds. -/
def logC (n : Nat) : Array Value := #[.bool false, .int .i64 (n : Int), .slice none 0 0]
theorem logC_put (n : Nat) : (logC n).setIfInBounds 1 (.int .i64 ((n : Int) + 1)) = logC (n + 1) := by
  simp [logC]

theorem Bs.log {w w' : World} {v : Value} {l : List UInt8} {g n : Nat} {t : TypeId} (h : Bs w v l) (hr : RowAt w g t (logC n)) (hg : w.grownBy w' (some g)) : Bs w' v l := by
  obtain ⟨B, d, rfl, h1, h2, h3⟩ := h
  refine ⟨B, d, rfl, h1, h2, fun h0 => ?_⟩
  obtain ⟨b, off, hA, hc⟩ := h3 h0
  refine ⟨b, off, hA, fun j hj => ?_⟩
  have hcj := hc j hj
  have hb : b ≠ g := by
    intro e
    subst e
    rw [hr.cell] at hcj
    simp only [logC] at hcj
    rcases hx : off + j with _ | _ | _ | m <;> rw [hx] at hcj <;> simp at hcj
  exact (World.cell?_of_block (a := ⟨b, off + j, none⟩) (hg.block _ (World.block_lt_of_cell? w _ hcj) (by intro e; injection e with e; exact hb e))).trans hcj

/-- From w to x with a Log at g that keeps nothing and was made behind w0: it has counted n; all else that was there at w is as it was. -/
structure LogR (w0 w : World) (g n : Nat) (x : World) : Prop where
  below : Below w0.heap.size w0 x
  row : RowAt x g 41 (logC n)
  far : w0.heap.size ≤ g
  old : w0.heap.size ≤ w.heap.size
  row0 : ∃ n0, RowAt w g 41 (logC n0)
  grown : w.grownBy x (some g)
theorem LogR.self {w0 w x : World} {g n : Nat} (h : LogR w0 w g n x) : LogR w0 x g n x := ⟨h.below, h.row, h.far, h.below.size, ⟨n, h.row⟩, grown_refl _ _⟩
theorem LogR.new {w0 x : World} {g n : Nat} (hb : Below w0.heap.size w0 x) (h : RowAt x g 41 (logC n)) (hf : w0.heap.size ≤ g) : LogR w0 x g n x :=
  ⟨hb, h, hf, hb.size, ⟨n, h⟩, grown_refl _ _⟩
theorem LogR.kept {w0 w x y : World} {g n : Nat} (h : LogR w0 w g n x) (hb : Below x.heap.size x y) : LogR w0 w g n y :=
  ⟨below_size h.below hb, h.row.kept hb, h.far, h.old, h.row0, grown_trans h.grown (grown_below _ hb)⟩
theorem LogR.trans {w0 w x y : World} {g n m : Nat} (h : LogR w0 w g n x) (k : LogR w0 x g m y) : LogR w0 w g m y :=
  ⟨k.below, k.row, h.far, h.old, h.row0, grown_trans h.grown k.grown⟩
theorem LogR.put {w0 w x y : World} {g n i : Nat} {t : TypeId} {cs : Array Value} (h : LogR w0 w g n x) (p : PutRow x i t cs y) (hi : w.heap.size ≤ i) (hg : i ≠ g) : LogR w0 w g n y :=
  ⟨p.below h.below h.below.size (Nat.le_trans h.old hi), h.row.grown p.grown (by intro e; injection e with e; exact hg e.symm), h.far, h.old, h.row0,
    ⟨p.grown.os.trans h.grown.os, p.grown.tape.trans h.grown.tape, p.grown.output.trans h.grown.output, Nat.le_trans h.grown.size p.grown.size, fun k hk h1 => (p.grown.block k (Nat.lt_of_lt_of_le hk h.grown.size) (by intro e; injection e with e; omega)).trans (h.grown.block k hk h1)⟩⟩
theorem LogR.count {w0 w x : World} {g n : Nat} (h : LogR w0 w g n x) : LogR w0 w g (n + 1) (x.setCell ⟨g, 1, none⟩ (.int .i64 ((n : Int) + 1))) := by
  have hp := h.row.put 1 (.int .i64 ((n : Int) + 1))
  rw [logC_put] at hp
  exact ⟨h.below.setCell h.far _, hp, h.far, h.old, h.row0, grown_trans h.grown ⟨rfl, rfl, rfl, by simp, fun k _ hne => heap_setCell_other x _ k _ (fun h => hne (by rw [h]))⟩⟩
theorem LogR.other {w0 w x : World} {g n k : Nat} {t : TypeId} {cs : Array Value} (h : LogR w0 w g n x) (hr : RowAt w k t cs) (hk : k ≠ g) : RowAt x k t cs := hr.grown h.grown (by intro e; injection e with e; exact hk e)
theorem LogR.bs {w0 w x : World} {g n : Nat} {v : Value} {l : List UInt8} (h : LogR w0 w g n x) (hv : Bs w v l) : Bs x v l := by
  obtain ⟨n0, h0⟩ := h.row0
  exact hv.log h0 h.grown
theorem LogR.size {w0 w x : World} {g n : Nat} (h : LogR w0 w g n x) : w.heap.size ≤ x.heap.size := h.grown.size
theorem LogR.glt {w0 w x : World} {g n : Nat} (h : LogR w0 w g n x) : g < w.heap.size := by
  obtain ⟨n0, h0⟩ := h.row0
  exact h0.lt

set_option maxHeartbeats 1000000 in
theorem LogSum_run (w0 w : World) (g n : Nat) (v : Value) (l d : List UInt8) (h : LogR w0 w g n w) (hn : n ≤ 1000000000) (hd : d = digestB l) (hb : Bs w v l) (hl : l.length ≤ 1000000) :
    Calls Tryd.prog 23 #[.pointer (some ⟨g, 0, none⟩), v] w fun e w' => e = .returned (.agg (keyC d)) ∧ LogR w0 w g (n + 1) w' := by
  have HR := Lib.hid h
  have HB := Lib.hid hb
  have hgl := h.glt
  have LD : Hid (d.length = 32) := by show _ = _; rw [hd, digestB_length]
  have HD : Hid (∀ x u, Bs x u l → Calls Tryd.prog 22 #[u] x (RetV x (.agg (keyC d)))) := fun x u hu => by rw [hd]; exact refDigest_any x u l hu hl
  clear h hb hd
  go_enter Tryd.func23, Tryd.ntmps23
  go_wp2_with ((with_reducible refine wpList_alloc_row (o := ⟨some 4, _, _, _, _, _⟩) rfl 33 rfl (keyC zeroKey) Tryd.zeroK ?_); intro g1 w1 n1; have R1 := Lib.hid (HR.out.kept n1.below); have c0 : w1.cell? ⟨g, 0, none⟩ = some (.bool false) := R1.out.row.cell 0; have c1 : w1.cell? ⟨g, 1, none⟩ = some (.int .i64 (n : Int)) := R1.out.row.cell 1; have z1 : w1.frozen? ⟨g, 1, none⟩ = false := R1.out.row.frozen 1; have hadd : IntKind.i64.wrap ((n : Int) + 1) = (n : Int) + 1 := IntWalk.i64_in _ (by omega))
  have Q1 := Lib.hid n1.row
  have hg1 : w.heap.size ≤ g1 := Nat.le_of_eq n1.spot.symm
  have hgg : g1 ≠ g := by omega
  have R2 := Lib.hid R1.out.count
  have R2s := Lib.hid R1.out.self.count
  have B2 := Lib.hid (R2s.out.bs (HB.out.below n1.below))
  have Q2 := Lib.hid (R2s.out.other Q1.out hgg)
  clear n1 HR HB c0 c1 z1 hadd R1 Q1 R2s
  refine (HD.out _ _ (by exact B2.out)).mono ?_
  intro e w3 h
  obtain ⟨he, b3⟩ := h
  subst he
  have R3 := Lib.hid (R2.out.kept b3)
  have Q3 := Lib.hid (Q2.out.kept b3)
  clear b3 R2 Q2 B2 HD
  go_wp2_with ((with_reducible refine wpList_store_row (o := ⟨none, _, _, _, _, _⟩) rfl 33 (.tmp 4) (.tmp 31) rfl g1 33 _ (keyC d) (by with_unfolding_all rfl) (by with_unfolding_all rfl) Q3.out (keyC_same zeroKey_length LD.out) (Tryd.sizeKey d LD.out) (keyC_one d) ?_); intro w4 p4)
  refine bodyPost_ret (results_cell_row rfl _ _ g1 33 (keyC d) (0, 0) (.array 32 5) rfl p4.row Tryd.underlying33 rfl (Tryd.sizeKey d LD.out)) rfl ⟨rfl, ?_⟩
  exact R3.out.put p4 hg1 hgg
end Go.Proofs.YtdojaighchgghaaDoor
