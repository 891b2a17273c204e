/-
  Whole arrays and structs in memory, as rows that are never written out: made, boxed, loaded, stored, handed back. Conditions: as each law names them.
-/
import Derived.Test.YtenmgpijhaalbaaMem
import Derived.Laws.Rows
import Derived.Laws.CopyRow
import Derived.Laws.CopyOwn
import Derived.Laws.ResultCell
import Derived.Deep.RegionLaw
namespace Go.Proofs.Ytenmgpijhaalbaa
open Go.RowKit

/-- Block g is just the cells cs, none of them frozen. -/
def RowAt (w : World) (g : Nat) (t : TypeId) (cs : Array Value) : Prop := w.heap[g]? = some (.cells cs t (0, 0))

section
variable {w w' : World} {g : Nat} {t : TypeId} {cs : Array Value}
theorem RowAt.lt (h : RowAt w g t cs) : g < w.heap.size := by
  rcases Nat.lt_or_ge g w.heap.size with hlt | hge
  · exact hlt
  · unfold RowAt at h; rw [Array.getElem?_eq_none hge] at h; cases h
theorem RowAt.cell (h : RowAt w g t cs) (i : Nat) : w.cell? ⟨g, i, none⟩ = cs[i]? := cell_of_row w g i cs t (0, 0) h
theorem RowAt.frozen (h : RowAt w g t cs) (i : Nat) : w.frozen? ⟨g, i, none⟩ = false := frozen_of_row w g i cs t h
theorem RowAt.drew (h : RowAt w g t cs) : RowAt w.drew g t cs := h
theorem RowAt.drewN (h : RowAt w g t cs) (n : Nat) : RowAt (w.drewN n) g t cs := h
theorem RowAt.alloc (h : RowAt w g t cs) (o : Obj) : RowAt (w.alloc o) g t cs := (Below.heap_alloc w o g h.lt).trans h
theorem RowAt.below {B : Nat} (h : RowAt w g t cs) (hb : Below B w w') (hg : g < B) : RowAt w' g t cs := (hb.block g hg).trans h
theorem RowAt.kept (h : RowAt w g t cs) (hb : Below w.heap.size w w') : RowAt w' g t cs := h.below hb h.lt
theorem RowAt.grown {row : Option Nat} (h : RowAt w g t cs) (hb : w.grownBy w' row) (hg : some g ≠ row) : RowAt w' g t cs := (hb.block g h.lt hg).trans h
theorem RowAt.put (h : RowAt w g t cs) (i : Nat) (u : Value) : RowAt (w.setCell ⟨g, i, none⟩ u) g t (cs.setIfInBounds i u) := heap_setCell_same w g i cs t u h
theorem RowAt.far (h : RowAt w g t cs) {p : Addr} (hp : g ≠ p.block) (u : Value) : RowAt (w.setCell p u) g t cs := (heap_setCell_other w p g u hp).trans h
theorem RowAt.new (w : World) (t : TypeId) (cs : Array Value) : RowAt (w.alloc (.cells cs t)) w.heap.size t cs := heap_alloc_new w _
end

/-- A new block has been laid, and nothing else has turned. -/
structure NewRow (w : World) (g : Nat) (t : TypeId) (cs : Array Value) (w' : World) : Prop where
  row : RowAt w' g t cs
  spot : g = w.heap.size
  below : Below w.heap.size w w'
  size : w'.heap.size = w.heap.size + 1
theorem NewRow.mk_ (w : World) (t : TypeId) (cs : Array Value) : NewRow w w.heap.size t cs (w.alloc (.cells cs t)) :=
  ⟨RowAt.new w t cs, rfl, (Below.refl _ _).alloc (Nat.le_refl _) _, by simp⟩

/-- One row has been written as a whole, and nothing else has turned. -/
structure PutRow (w : World) (g : Nat) (t : TypeId) (cs : Array Value) (w' : World) : Prop where
  row : RowAt w' g t cs
  grown : w.grownBy w' (some g)
  size : w'.heap.size = w.heap.size
theorem PutRow.below {w w' w0 : World} {g : Nat} {t : TypeId} {cs : Array Value} {B : Nat} (h : PutRow w g t cs w') (hb : Below B w0 w) (hB : B ≤ w.heap.size) (hg : B ≤ g) : Below B w0 w' :=
  hb.grown h.grown hB (fun k e => by injection e with e; omega)

section
variable {P : Program} {w : World}

theorem wp_alloc_row {o : Oper} {a : Act} {K : Act → World → Prop} {Q : Exit → Act → World → Prop} (ty : TypeId) (ho : o.op = .alloc ty)
    (z : Array Value) (hz : (P.info? ty).map (·.zero) = some (some (.agg z)))
    (h : ∀ g w', NewRow w g ty z w' → K (a.put o.dst (.pointer (some ⟨g, 0, none⟩))) w') : o.wp P a w K Q := by
  obtain ⟨i, hi, hz⟩ := Option.map_eq_some_iff.1 hz
  unfold Oper.wp execOp
  simp [ho, Instr.alloc, zeroValue, typeInfo, hi, hz, newVar, newRow, newObj, Value.cells]
  exact h _ _ (NewRow.mk_ w ty z)
theorem wpList_alloc_row {ops : Array Oper} {rest : List Oper} {o : Oper} {a : Act} {Q : Exit → Act → World → Prop} (hgd : o.guard = none) (ty : TypeId) (ho : o.op = .alloc ty)
    (z : Array Value) (hz : (P.info? ty).map (·.zero) = some (some (.agg z)))
    (h : ∀ g w', NewRow w g ty z w' → wpList P ops Q rest (a.put o.dst (.pointer (some ⟨g, 0, none⟩))) w') : wpList P ops Q (o :: rest) a w :=
  wpList_plain hgd fun _ hK => wp_alloc_row ty ho z hz fun g w' hn => hK _ _ (h g w' hn)

theorem wp_box_row {o : Oper} {a : Act} {K : Act → World → Prop} {Q : Exit → Act → World → Prop} (ty : TypeId) (x : Operand) (ho : o.op = .box ty x)
    (cs : Array Value) (hx : a.eval x = .agg cs)
    (h : ∀ g w', NewRow w g ty cs w' → K (a.put o.dst (.pointer (some ⟨g, 0, none⟩))) w') : o.wp P a w K Q := by
  unfold Oper.wp execOp
  simp [ho, Instr.box, hx, newVar, newRow, newObj, Value.cells]
  exact h _ _ (NewRow.mk_ w ty cs)
theorem wpList_box_row {ops : Array Oper} {rest : List Oper} {o : Oper} {a : Act} {Q : Exit → Act → World → Prop} (hgd : o.guard = none) (ty : TypeId) (x : Operand) (ho : o.op = .box ty x)
    (cs : Array Value) (hx : a.eval x = .agg cs)
    (h : ∀ g w', NewRow w g ty cs w' → wpList P ops Q rest (a.put o.dst (.pointer (some ⟨g, 0, none⟩))) w') : wpList P ops Q (o :: rest) a w :=
  wpList_plain hgd fun _ hK => wp_box_row ty x ho cs hx fun g w' hn => hK _ _ (h g w' hn)

theorem setRow_put {g : Nat} {t : TypeId} {old cs : Array Value} (hg : RowAt w g t old) : PutRow w g t cs (w.setRow g cs) :=
  ⟨setRow_heap w g _ cs t _ hg, ⟨rfl, rfl, rfl, by simp, fun k _ hne => setRow_other w g k cs (fun e => hne (by rw [e]))⟩, by simp⟩

theorem wp_store_row {o : Oper} {a : Act} {K : Act → World → Prop} {Q : Exit → Act → World → Prop} (ty : TypeId) (x y : Operand) (ho : o.op = .store ty x y)
    (g : Nat) (t : TypeId) (old cs : Array Value) (hx : a.eval x = .pointer (some ⟨g, 0, none⟩)) (hy : a.eval y = .agg cs) (hg : RowAt w g t old) (hs : old.size = cs.size) (hi : (P.info? ty).map (·.size) = some cs.size)
    (h1 : ∀ u ∈ cs.toList, u.oneCell' = true)
    (h : ∀ w', PutRow w g t cs w' → K (a.put o.dst undef) w') : o.wp P a w K Q := by
  obtain ⟨i, hi, hz⟩ := Option.map_eq_some_iff.1 hi
  have hrun := run_storeCells_at (P := P) g 0 t cs.toList 0 old w hg (by simp [hs]) h1
  have he : (old.toList.take (0 + 0) ++ cs.toList ++ old.toList.drop (0 + 0 + cs.toList.length)).toArray = cs := by
    rw [List.drop_eq_nil_of_le (by simp [hs])]
    simp
  rw [he] at hrun
  unfold Oper.wp execOp
  simp [ho, Instr.storeAt, Instr.sureAddr, storeVar, hx, hy, sizeOf, typeInfo, hi, hz, Value.cells, hrun]
  exact h _ (setRow_put hg)
theorem wpList_store_row {ops : Array Oper} {rest : List Oper} {o : Oper} {a : Act} {Q : Exit → Act → World → Prop} (hgd : o.guard = none) (ty : TypeId) (x y : Operand) (ho : o.op = .store ty x y)
    (g : Nat) (t : TypeId) (old cs : Array Value) (hx : a.eval x = .pointer (some ⟨g, 0, none⟩)) (hy : a.eval y = .agg cs) (hg : RowAt w g t old) (hs : old.size = cs.size) (hi : (P.info? ty).map (·.size) = some cs.size)
    (h1 : ∀ u ∈ cs.toList, u.oneCell' = true)
    (h : ∀ w', PutRow w g t cs w' → wpList P ops Q rest (a.put o.dst undef) w') : wpList P ops Q (o :: rest) a w :=
  wpList_plain hgd fun _ hK => wp_store_row ty x y ho g t old cs hx hy hg hs hi h1 fun w' hn => hK _ _ (h w' hn)

/-- A guarded operation whose guard says yes. -/
theorem wpList_wanted {ops : Array Oper} {rest : List Oper} {o : Oper} {a : Act} {Q : Exit → Act → World → Prop} (hw : Region.wanted o (yielded ops a.tmps) = true)
    (h : ∀ K : Act → World → Prop, (∀ a w, wpList P ops Q rest a w → K a w) → o.wp P a w K Q) : wpList P ops Q (o :: rest) a w :=
  wpList_step fun K hK => by rw [if_pos hw]; exact h K hK
theorem wpListG_load_row {ops : Array Oper} {rest : List Oper} {o : Oper} {a : Act} {Q : Exit → Act → World → Prop} (ty : TypeId) (x : Operand) (ho : o.op = .load ty x) (hw : Region.wanted o (yielded ops a.tmps) = true)
    (g : Nat) (hx : a.eval x = .pointer (some ⟨g, 0, none⟩)) (t : TypeId) (cs : Array Value) (d : TypeDesc) (hg : RowAt w g t cs)
    (hu : P.underlying ty = some d) (hd : (match d with | .struct _ | .array _ _ => true | _ => false) = true) (hi : (P.info? ty).map (·.size) = some cs.size)
    (h : wpList P ops Q rest (a.put o.dst (.agg cs)) w) : wpList P ops Q (o :: rest) a w :=
  wpList_wanted hw fun _ hK => wp_load_row ty x ho g hx t cs (0, 0) d hg hu hd hi (hK _ _ h)

theorem ret_row_tmp {fn : Func} {p u : Tmp} {ty : TypeId} (h : fn.results = #[.cell p ty, .tmp u]) (tmps : Array Value) (g : Nat) (t : TypeId) (cs : Array Value) (d : TypeDesc)
    (hp : tmps.getD p undef = .pointer (some ⟨g, 0, none⟩)) (hg : RowAt w g t cs)
    (hu : P.underlying ty = some d) (hd : (match d with | .struct _ | .array _ _ => true | _ => false) = true) (hi : (P.info? ty).map (·.size) = some cs.size) :
    (results fn tmps).run P w = .ok (.tuple #[.agg cs, tmps.getD u undef]) w := by
  rw [results_cell_tmp h, hp]
  simp [asAddr, run_loadVar_row w g t ty cs (0, 0) d hg hu hd hi]
end
end Go.Proofs.Ytenmgpijhaalbaa
