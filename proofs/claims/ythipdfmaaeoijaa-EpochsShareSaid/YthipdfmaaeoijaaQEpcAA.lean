/-
  Texts that belong together, merged: Mem, Row, Val, MapV, Tail. Conditions: as each theorem names them.
-/
import Derived.WalkKit
import Derived.OwnWalk
import Derived.Below
import Derived.Deep.Draws
import Derived.Lib.Hide
import Derived.OpenShut
import Derived.Deep.AppendLies
import Derived.Laws.BytesArg
import Derived.Laws.Rows
import Derived.Laws.CopyRow
import Derived.Laws.CopyOwn
import Derived.Laws.ResultCell
import Derived.Deep.RegionLaw
import Derived.MapKept
import Derived.Maps.RangeRun
import Derived.StillTail
import Derived.Deep.Quiet
import Derived.Deep.QuietTactic
section
namespace Go.Proofs.Ythipdfmaaeoijaa
open Go.RowKit

/-- The cells of a list of bytes. -/
def cellsB (l : List UInt8) : List Value := l.map fun b => Value.int .u8 (b.toNat : Int)

theorem cellsB_length (l : List UInt8) : (cellsB l).length = l.length := by simp [cellsB]
theorem cellsB_append (a b : List UInt8) : cellsB (a ++ b) = cellsB a ++ cellsB b := by simp [cellsB]
theorem cellsB_get (l : List UInt8) (j : Nat) (h : j < l.length) : (cellsB l)[j]? = some (.int .u8 (l[j].toNat : Int)) := by
  simp [cellsB, h]
theorem cellsB_one (l : List UInt8) : ∀ u ∈ cellsB l, u.oneCell' = true := by
  intro u hu
  obtain ⟨b, _, rfl⟩ := List.mem_map.1 hu
  rfl

/-- THE SLICE VALUE v READS AS THE BYTES l in the world w (nil and empty are one). -/
def Bs (w : World) (v : Value) (l : List UInt8) : Prop :=
  ∃ A c, v = .slice A l.length c ∧ l.length ≤ c ∧ c ≤ maxLen ∧
    (0 < l.length → ∃ b off, A = some ⟨b, off, none⟩ ∧ ∀ j (h : j < l.length), w.cell? ⟨b, off + j, none⟩ = some (.int .u8 (l[j].toNat : Int)))

theorem Bs.nil (w : World) : Bs w (.slice none 0 0) [] := ⟨none, 0, rfl, Nat.le_refl _, by simp [maxLen], fun h => absurd h (by simp)⟩

theorem Bs.keep {w w' : World} {v : Value} {l : List UInt8} (h : Bs w v l) (hk : ∀ p : Addr, p.block < w.heap.size → w'.cell? p = w.cell? p) : Bs w' v l := by
  obtain ⟨A, c, hv, h1, h2, h3⟩ := h
  refine ⟨A, c, hv, h1, h2, fun hl => ?_⟩
  obtain ⟨b, off, hA, hc⟩ := h3 hl
  exact ⟨b, off, hA, fun j hj => (hk _ (World.block_lt_of_cell? w _ (hc j hj))).trans (hc j hj)⟩

theorem Bs.below {w w' : World} {v : Value} {l : List UInt8} (h : Bs w v l) (hb : Below w.heap.size w w') : Bs w' v l := h.keep fun _ hp => hb.cell hp
theorem Bs.drew {w : World} {v : Value} {l : List UInt8} (h : Bs w v l) : Bs w.drew v l := h
theorem Bs.drewN {w : World} {v : Value} {l : List UInt8} (h : Bs w v l) (n : Nat) : Bs (w.drewN n) v l := h
theorem Bs.alloc {w : World} {v : Value} {l : List UInt8} (h : Bs w v l) (o : Obj) : Bs (w.alloc o) v l := h.keep fun p hp => World.cell?_alloc_lt w o p hp
theorem Bs.len {w : World} {v : Value} {l : List UInt8} (h : Bs w v l) : l.length ≤ maxLen := by
  obtain ⟨_, c, _, h1, h2, _⟩ := h
  exact Nat.le_trans h1 h2

theorem Bs.of_own {w : World} {base : Nat} {e : TypeId} {v : Value} {l : List UInt8} {n : Nat} (h : w.ownsRow base e 1 v n (cellsB l)) : Bs w v l := by
  have hn : n = l.length := by have := h.1; simp [cellsB_length] at this; omega
  subst hn
  rcases h.2 with ⟨rfl, hl⟩ | ⟨g, cap, cur, rfl, hb, hg, hnc, hcm, hs, htake⟩
  · have : l = [] := List.eq_nil_of_length_eq_zero hl
    subst this
    exact Bs.nil w
  · refine ⟨_, cap, rfl, hnc, hcm, fun _ => ⟨g, 0, rfl, fun j hj => ?_⟩⟩
    rw [Nat.zero_add]
    have := h.cellAt j (by omega)
    rw [this, cellsB_get l j hj]

theorem below_drewN {B : Nat} {a w : World} (h : Below B a w) (n : Nat) : Below B a (w.drewN n) := ⟨h.os, h.tape, h.output, h.size, h.block⟩
theorem below_size {a w w' : World} (h : Below a.heap.size a w) (k : Below w.heap.size w w') : Below a.heap.size a w' := h.trans (k.mono h.size)

/-- A call came back with a slice that reads as l; what was there is as it was. -/
def RetBs (w : World) (l : List UInt8) (e : Ending) (w' : World) : Prop := ∃ v, e = .returned v ∧ Bs w' v l ∧ Below w.heap.size w w'

/-- A call came back with the value v; what was there is as it was. -/
def RetV (w : World) (v : Value) (e : Ending) (w' : World) : Prop := e = .returned v ∧ Below w.heap.size w w'

theorem RetV.quiet {w : World} {v : Value} {e : Ending} {w' : World} (h : e = .returned v ∧ ∃ n, w' = w.drewN n) : RetV w v e w' := by
  obtain ⟨h, n, rfl⟩ := h
  exact ⟨h, below_drewN (Below.refl _ _) n⟩

/-- The call's own row of bytes (its block's number is at least base; nil, as long as nothing is in it). -/
def OwnB (w : World) (base : Nat) (e : TypeId) (v : Value) (l : List UInt8) : Prop := w.ownsRow base e 1 v l.length (cellsB l)
theorem OwnB.bs {w : World} {base : Nat} {e : TypeId} {v : Value} {l : List UInt8} (h : OwnB w base e v l) : Bs w v l := Bs.of_own h
theorem OwnB.nil (w : World) (base : Nat) (e : TypeId) : OwnB w base e (.slice none 0 0) [] := World.ownsRow_nil _ _ _ _
theorem OwnB.alloc {w : World} {base : Nat} {e : TypeId} {v : Value} {l : List UInt8} (h : OwnB w base e v l) (o : Obj) : OwnB (w.alloc o) base e v l := World.ownsRow.alloc h o
theorem OwnB.drew {w : World} {base : Nat} {e : TypeId} {v : Value} {l : List UInt8} (h : OwnB w base e v l) : OwnB w.drew base e v l := h
theorem OwnB.drewN {w : World} {base : Nat} {e : TypeId} {v : Value} {l : List UInt8} (h : OwnB w base e v l) (n : Nat) : OwnB (w.drewN n) base e v l := h
theorem OwnB.below {w w' : World} {base : Nat} {e : TypeId} {v : Value} {l : List UInt8} (h : OwnB w base e v l) (hb : Below w.heap.size w w') : OwnB w' base e v l :=
  World.ownsRow.kept (row := none) h ⟨hb.os, hb.tape, hb.output, hb.size, fun k hk _ => hb.block k hk⟩ (by cases v.ownBlock <;> simp)
theorem OwnB.rows {w : World} {base : Nat} {e : TypeId} {v : Value} {l : List UInt8} (h : OwnB w base e v l) : ∀ k, v.ownBlock = some k → base ≤ k := fun k hk => (World.ownsRow.lt h k hk).1

section
variable {P : Program} (w : World)

/-- append of bytes that are read (nil, empty or not) onto the call's own row. -/
theorem run_appB (base : Nat) (t ty e : TypeId) (hinfo : (P.info? e).map (fun i => (i.zero, i.size, i.bytes)) = some (some (.int .u8 0), 1, 1)) (ht : P.underlying t = some (.slice e))
    (v u : Value) (l m : List UInt8) (hown : OwnB w base e v l) (hu : Bs w u m) (hlen : l.length + m.length ≤ 140737488355328) (hbase : base ≤ w.heap.size) :
    ∃ v' w', (Builtin.append_ #[t, t] ty #[v, u]).run P w = .ok v' w' ∧ OwnB w' base e v' (l ++ m) ∧ w.grownBy w' v.ownBlock := by
  obtain ⟨i, hi, hz0, hz1, hz2⟩ := info_parts hinfo
  obtain ⟨A, c, rfl, h1, h2, h3⟩ := hu
  rcases A with _ | ad
  · have hm : m = [] := by
      rcases m with _ | ⟨b, m⟩
      · rfl
      · obtain ⟨_, _, h, _⟩ := h3 (by simp)
        cases h
    subst hm
    refine ⟨v, w, ?_, by simpa using hown, World.grownBy.refl w _⟩
    rcases World.ownsRow.lt hown with _
    unfold OwnB at hown
    rcases hown.2 with ⟨rfl, _⟩ | ⟨g, cap, cur, rfl, _, _, hnc, _⟩
    · simp [Builtin.append_, run_underlying ht, sizeOf, typeInfo, hi, Builtin.lenOf, Builtin.firstCells]
    · simp [Builtin.append_, run_underlying ht, sizeOf, typeInfo, hi, Builtin.lenOf, Builtin.firstCells, hnc, storeCells]
  · have hcells : ∀ j x, (cellsB m)[j]? = some x → w.cell? (ad.add j) = some x := by
      intro j x hx
      have hj : j < m.length := by
        have := (List.getElem?_eq_some_iff.1 hx).1
        rwa [cellsB_length] at this
      obtain ⟨b, off, h, hc⟩ := h3 (by omega)
      injection h with h
      subst h
      rw [cellsB_get m j hj] at hx
      have hadd : (⟨b, off, none⟩ : Addr).add j = ⟨b, off + j, none⟩ := by unfold Addr.add; split <;> simp_all
      rw [hadd, hc j hj, hx]
    obtain ⟨v', w', hrun, ho, hg, _⟩ := run_append_own (P := P) w base t ty e i (.int .u8 0) 1 1 ht hi hz0 hz1 hz2 rfl (by decide) v l.length (cellsB l) hown ad m.length c (cellsB m) (by simp [cellsB_length]) hcells (cellsB_one m) (by unfold maxLen; omega) (by omega) hbase
    exact ⟨v', w', hrun, by unfold OwnB; rw [cellsB_append, List.length_append]; exact ho, hg⟩

theorem wp_appB {o : Oper} {a : Act} {K : Act → World → Prop} {Q : Exit → Act → World → Prop} (s x : Operand) (t : TypeId)
    (ho : o.op = .call { callee := .builtin .append, args := #[s, x], argTypes := #[t, t] })
    (w0 : World) (e : TypeId) (hinfo : (P.info? e).map (fun i => (i.zero, i.size, i.bytes)) = some (some (.int .u8 0), 1, 1)) (ht : P.underlying t = some (.slice e))
    (v u : Value) (l m : List UInt8) (hs : a.eval s = v) (hx : a.eval x = u) (hown : OwnB w w0.heap.size e v l) (hu : Bs w u m) (hlen : l.length + m.length ≤ 140737488355328) (hb : Below w0.heap.size w0 w)
    (h : ∀ v' w', OwnB w' w0.heap.size e v' (l ++ m) → Below w0.heap.size w0 w' → K (a.put o.dst v') w') : o.wp P a w K Q := by
  obtain ⟨v', w', hr, h2, h3⟩ := run_appB (P := P) w w0.heap.size t o.type e hinfo ht v u l m hown hu hlen hb.size
  unfold Oper.wp execOp
  simp only [ho, resolve, invoke, builtin, Sem.run_bind, Sem.run_pure, Result.andThen_ok, List.map_toArray, List.map_cons, List.map_nil, hs, hx, hr]
  exact h v' w' h2 (hb.grown h3 hb.size hown.rows)

theorem wpList_appB {ops : Array Oper} {rest : List Oper} {o : Oper} {a : Act} {Q : Exit → Act → World → Prop} (hgd : o.guard = none) (s x : Operand) (t : TypeId)
    (ho : o.op = .call { callee := .builtin .append, args := #[s, x], argTypes := #[t, t] })
    (w0 : World) (e : TypeId) (hinfo : (P.info? e).map (fun i => (i.zero, i.size, i.bytes)) = some (some (.int .u8 0), 1, 1)) (ht : P.underlying t = some (.slice e))
    (v u : Value) (l m : List UInt8) (hs : a.eval s = v) (hx : a.eval x = u) (hown : OwnB w w0.heap.size e v l) (hu : Bs w u m) (hlen : l.length + m.length ≤ 140737488355328) (hb : Below w0.heap.size w0 w)
    (h : ∀ v' w', OwnB w' w0.heap.size e v' (l ++ m) → Below w0.heap.size w0 w' → wpList P ops Q rest (a.put o.dst v') w') : wpList P ops Q (o :: rest) a w :=
  wpList_plain hgd fun _ hK => wp_appB w s x t ho w0 e hinfo ht v u l m hs hx hown hu hlen hb fun v' w' h2 h3 => hK _ _ (h v' w' h2 h3)

theorem step_appB {ops : Array Oper} {o : Oper} {a : Act} {K : Act → World → Prop} {Q : Exit → Act → World → Prop} {E : Prop} (hgd : o.guard = none) (s x : Operand) (t : TypeId)
    (ho : o.op = .call { callee := .builtin .append, args := #[s, x], argTypes := #[t, t] })
    (w0 : World) (e : TypeId) (hinfo : (P.info? e).map (fun i => (i.zero, i.size, i.bytes)) = some (some (.int .u8 0), 1, 1)) (ht : P.underlying t = some (.slice e))
    (v u : Value) (l m : List UInt8) (hs : a.eval s = v) (hx : a.eval x = u) (hown : OwnB w w0.heap.size e v l) (hu : Bs w u m) (hlen : l.length + m.length ≤ 140737488355328) (hb : Below w0.heap.size w0 w)
    (h : ∀ v' w', OwnB w' w0.heap.size e v' (l ++ m) → Below w0.heap.size w0 w' → K (a.put o.dst v') w') :
    if Region.wanted o (yielded ops a.tmps) = true then Oper.wp P o a w K Q else E := by
  have hw : Region.wanted o (yielded ops a.tmps) = true := by simp [Region.wanted, hgd]
  rw [if_pos hw]
  exact wp_appB w s x t ho w0 e hinfo ht v u l m hs hx hown hu hlen hb h
end

/-- A slice that a literal has just made. -/
theorem Bs.lit (w : World) (e : TypeId) (l : List UInt8) (c : Array Value) (hc : c.toList = cellsB l) (hm : l.length ≤ maxLen) : Bs (w.alloc (.cells c e)) (.slice (some ⟨w.heap.size, 0, none⟩) l.length l.length) l := by
  have h := World.ownsRow_lit (base := 0) (e := e) (size := 1) w c l.length (Nat.zero_le _) hm (by rw [← Array.length_toList, hc, cellsB_length]; omega)
  rw [hc] at h
  exact Bs.of_own h
theorem Bs.lit1 (w : World) (e : TypeId) (b : UInt8) (x : Int) (hx : x = (b.toNat : Int)) : Bs (w.alloc (.cells #[.int .u8 x] e)) (.slice (some ⟨w.heap.size, 0, none⟩) 1 1) [b] := by
  subst hx
  exact Bs.lit w e [b] _ rfl (by simp [maxLen])
theorem Bs.lit2 (w : World) (e : TypeId) (b c : UInt8) (x y : Int) (hx : x = (b.toNat : Int)) (hy : y = (c.toNat : Int)) : Bs (w.alloc (.cells #[.int .u8 x, .int .u8 y] e)) (.slice (some ⟨w.heap.size, 0, none⟩) 2 2) [b, c] := by
  subst hx hy
  exact Bs.lit w e [b, c] _ rfl (by simp [maxLen])

/-- 'string(b)'. -/
theorem run_convB {P : Program} {w : World} {v : Value} {l : List UInt8} (h : Bs w v l) (src dst e : TypeId) (hs : P.underlying src = some (.slice e)) (he : P.underlying e = some (.int .u8)) (hd : P.underlying dst = some .string) :
    (convert src dst v).run P w = .ok (.string ⟨l.toArray⟩) w := by
  obtain ⟨A, c, rfl, h1, h2, h3⟩ := h
  rcases l with _ | ⟨x, l⟩
  · rcases A with _ | ad
    · exact run_convert_bytes_nil w src e hs he 0 c dst hd
    · rw [run_convert_bytes_string w src dst e _ _ c hs he hd]
      have hl : (loadCells ad 0).run P w = .ok (([] : List Int).map (Value.int .u8)).toArray w := by simp [loadCells, loadCellsFrom]
      exact run_bytesToString w ad 0 c [] hl
  · obtain ⟨b, off, rfl, hc⟩ := h3 (by simp)
    have := run_convert_bytes_arg w src e hs he b off (x :: l).length c ((x :: l).map fun b => (b.toNat : Int)) (by simp) (fun i hi => by
      rw [hc i hi]
      simp only [List.getD_eq_getElem?_getD, List.getElem?_map, List.getElem?_eq_getElem hi]
      rfl) dst hd
    rw [this]
    congr 2
    apply ByteArray.ext
    apply Array.toList_inj.1
    rw [strOfNums_data]
    simp [Function.comp_def]

theorem ret_eq {u v : Value} (h : u = v) : Ending.returned u = .returned v := by rw [h]
theorem ret_int {k : IntKind} {a b : Int} (h : a = b) : Ending.returned (.int k a) = .returned (.int k b) := by rw [h]

theorem made_zeros (n : Nat) : (madeCells (Value.int .u8 0).cells (n * 1)).toList = cellsB (List.replicate n 0) := by
  have : (Value.int .u8 0).cells = #[Value.int .u8 0] := rfl
  rw [this, Nat.mul_one, toList_madeCells_one]
  simp [cellsB]

theorem cellsB_set (l : List UInt8) (j : Nat) (b : UInt8) : (cellsB l).set j (.int .u8 (b.toNat : Int)) = cellsB (l.set j b) := by
  simp [cellsB, List.map_set]

theorem own_put {w : World} {base : Nat} {e : TypeId} {g n cap : Nat} {l : List UInt8} (h : w.ownsRow base e 1 (.slice (some ⟨g, 0, none⟩) n cap) n (cellsB l)) (j : Nat) (b : UInt8) :
    (w.setCell ⟨g, j, none⟩ (.int .u8 (b.toNat : Int))).ownsRow base e 1 (.slice (some ⟨g, 0, none⟩) n cap) n (cellsB (l.set j b)) := by
  rw [← cellsB_set]
  exact (h.stored j _).1
theorem own_cell {w : World} {base : Nat} {e : TypeId} {g n cap : Nat} {l : List UInt8} (h : w.ownsRow base e 1 (.slice (some ⟨g, 0, none⟩) n cap) n (cellsB l)) (j : Nat) (hj : j < l.length) :
    w.cell? ⟨g, j, none⟩ = some (.int .u8 (l[j].toNat : Int)) := by
  have hn : n = l.length := by have := h.1; simp [cellsB_length] at this; omega
  rw [h.cellAt j (by omega), cellsB_get l j hj]
theorem own_some {w : World} {base : Nat} {e : TypeId} {g n cap : Nat} {l : List UInt8} (h : w.ownsRow base e 1 (.slice (some ⟨g, 0, none⟩) n cap) n (cellsB l)) (j : Nat) (hj : j < n) :
    ∃ b : UInt8, w.cell? ⟨g, j, none⟩ = some (.int .u8 (b.toNat : Int)) := by
  have hn : n = l.length := by have := h.1; simp [cellsB_length] at this; omega
  exact ⟨_, own_cell h j (by omega)⟩
end Go.Proofs.Ythipdfmaaeoijaa
end
section
namespace Go.Proofs.Ythipdfmaaeoijaa
open Go.RowKit

/-- Block g is just the cells cs, none of them frozen. -/
def RowAt (w : World) (g : Nat) (t : TypeId) (cs : Array Value) : Prop := w.heap[g]? = some (.cells cs t (0, 0))

section
variable {w w' : World} {g : Nat} {t : TypeId} {cs : Array Value}
theorem RowAt.lt (h : RowAt w g t cs) : g < w.heap.size := by
  rcases Nat.lt_or_ge g w.heap.size with hlt | hge
  · exact hlt
  · unfold RowAt at h; rw [Array.getElem?_eq_none hge] at h; cases h
theorem RowAt.cell (h : RowAt w g t cs) (i : Nat) : w.cell? ⟨g, i, none⟩ = cs[i]? := cell_of_row w g i cs t (0, 0) h
theorem RowAt.frozen (h : RowAt w g t cs) (i : Nat) : w.frozen? ⟨g, i, none⟩ = false := frozen_of_row w g i cs t h
theorem RowAt.drew (h : RowAt w g t cs) : RowAt w.drew g t cs := h
theorem RowAt.drewN (h : RowAt w g t cs) (n : Nat) : RowAt (w.drewN n) g t cs := h
theorem RowAt.alloc (h : RowAt w g t cs) (o : Obj) : RowAt (w.alloc o) g t cs := (Below.heap_alloc w o g h.lt).trans h
theorem RowAt.below {B : Nat} (h : RowAt w g t cs) (hb : Below B w w') (hg : g < B) : RowAt w' g t cs := (hb.block g hg).trans h
theorem RowAt.kept (h : RowAt w g t cs) (hb : Below w.heap.size w w') : RowAt w' g t cs := h.below hb h.lt
theorem RowAt.grown {row : Option Nat} (h : RowAt w g t cs) (hb : w.grownBy w' row) (hg : some g ≠ row) : RowAt w' g t cs := (hb.block g h.lt hg).trans h
theorem RowAt.put (h : RowAt w g t cs) (i : Nat) (u : Value) : RowAt (w.setCell ⟨g, i, none⟩ u) g t (cs.setIfInBounds i u) := heap_setCell_same w g i cs t u h
theorem RowAt.far (h : RowAt w g t cs) {p : Addr} (hp : g ≠ p.block) (u : Value) : RowAt (w.setCell p u) g t cs := (heap_setCell_other w p g u hp).trans h
theorem RowAt.new (w : World) (t : TypeId) (cs : Array Value) : RowAt (w.alloc (.cells cs t)) w.heap.size t cs := heap_alloc_new w _
end

/-- A new block has been laid, and nothing else has turned. -/
structure NewRow (w : World) (g : Nat) (t : TypeId) (cs : Array Value) (w' : World) : Prop where
  row : RowAt w' g t cs
  spot : g = w.heap.size
  below : Below w.heap.size w w'
  size : w'.heap.size = w.heap.size + 1
theorem NewRow.mk_ (w : World) (t : TypeId) (cs : Array Value) : NewRow w w.heap.size t cs (w.alloc (.cells cs t)) :=
  ⟨RowAt.new w t cs, rfl, (Below.refl _ _).alloc (Nat.le_refl _) _, by simp⟩

/-- One row has been written as a whole, and nothing else has turned. -/
structure PutRow (w : World) (g : Nat) (t : TypeId) (cs : Array Value) (w' : World) : Prop where
  row : RowAt w' g t cs
  grown : w.grownBy w' (some g)
  size : w'.heap.size = w.heap.size
theorem PutRow.below {w w' w0 : World} {g : Nat} {t : TypeId} {cs : Array Value} {B : Nat} (h : PutRow w g t cs w') (hb : Below B w0 w) (hB : B ≤ w.heap.size) (hg : B ≤ g) : Below B w0 w' :=
  hb.grown h.grown hB (fun k e => by injection e with e; omega)

section
variable {P : Program} {w : World}

theorem wp_alloc_row {o : Oper} {a : Act} {K : Act → World → Prop} {Q : Exit → Act → World → Prop} (ty : TypeId) (ho : o.op = .alloc ty)
    (z : Array Value) (hz : (P.info? ty).map (·.zero) = some (some (.agg z)))
    (h : ∀ g w', NewRow w g ty z w' → K (a.put o.dst (.pointer (some ⟨g, 0, none⟩))) w') : o.wp P a w K Q := by
  obtain ⟨i, hi, hz⟩ := Option.map_eq_some_iff.1 hz
  unfold Oper.wp execOp
  simp [ho, Instr.alloc, zeroValue, typeInfo, hi, hz, newVar, newRow, newObj, Value.cells]
  exact h _ _ (NewRow.mk_ w ty z)
theorem wpList_alloc_row {ops : Array Oper} {rest : List Oper} {o : Oper} {a : Act} {Q : Exit → Act → World → Prop} (hgd : o.guard = none) (ty : TypeId) (ho : o.op = .alloc ty)
    (z : Array Value) (hz : (P.info? ty).map (·.zero) = some (some (.agg z)))
    (h : ∀ g w', NewRow w g ty z w' → wpList P ops Q rest (a.put o.dst (.pointer (some ⟨g, 0, none⟩))) w') : wpList P ops Q (o :: rest) a w :=
  wpList_plain hgd fun _ hK => wp_alloc_row ty ho z hz fun g w' hn => hK _ _ (h g w' hn)

theorem wp_box_row {o : Oper} {a : Act} {K : Act → World → Prop} {Q : Exit → Act → World → Prop} (ty : TypeId) (x : Operand) (ho : o.op = .box ty x)
    (cs : Array Value) (hx : a.eval x = .agg cs)
    (h : ∀ g w', NewRow w g ty cs w' → K (a.put o.dst (.pointer (some ⟨g, 0, none⟩))) w') : o.wp P a w K Q := by
  unfold Oper.wp execOp
  simp [ho, Instr.box, hx, newVar, newRow, newObj, Value.cells]
  exact h _ _ (NewRow.mk_ w ty cs)
theorem wpList_box_row {ops : Array Oper} {rest : List Oper} {o : Oper} {a : Act} {Q : Exit → Act → World → Prop} (hgd : o.guard = none) (ty : TypeId) (x : Operand) (ho : o.op = .box ty x)
    (cs : Array Value) (hx : a.eval x = .agg cs)
    (h : ∀ g w', NewRow w g ty cs w' → wpList P ops Q rest (a.put o.dst (.pointer (some ⟨g, 0, none⟩))) w') : wpList P ops Q (o :: rest) a w :=
  wpList_plain hgd fun _ hK => wp_box_row ty x ho cs hx fun g w' hn => hK _ _ (h g w' hn)

theorem setRow_put {g : Nat} {t : TypeId} {old cs : Array Value} (hg : RowAt w g t old) : PutRow w g t cs (w.setRow g cs) :=
  ⟨setRow_heap w g _ cs t _ hg, ⟨rfl, rfl, rfl, by simp, fun k _ hne => setRow_other w g k cs (fun e => hne (by rw [e]))⟩, by simp⟩

theorem wp_store_row {o : Oper} {a : Act} {K : Act → World → Prop} {Q : Exit → Act → World → Prop} (ty : TypeId) (x y : Operand) (ho : o.op = .store ty x y)
    (g : Nat) (t : TypeId) (old cs : Array Value) (hx : a.eval x = .pointer (some ⟨g, 0, none⟩)) (hy : a.eval y = .agg cs) (hg : RowAt w g t old) (hs : old.size = cs.size) (hi : (P.info? ty).map (·.size) = some cs.size)
    (h1 : ∀ u ∈ cs.toList, u.oneCell' = true)
    (h : ∀ w', PutRow w g t cs w' → K (a.put o.dst undef) w') : o.wp P a w K Q := by
  obtain ⟨i, hi, hz⟩ := Option.map_eq_some_iff.1 hi
  have hrun := run_storeCells_at (P := P) g 0 t cs.toList 0 old w hg (by simp [hs]) h1
  have he : (old.toList.take (0 + 0) ++ cs.toList ++ old.toList.drop (0 + 0 + cs.toList.length)).toArray = cs := by
    rw [List.drop_eq_nil_of_le (by simp [hs])]
    simp
  rw [he] at hrun
  unfold Oper.wp execOp
  simp [ho, Instr.storeAt, Instr.sureAddr, storeVar, hx, hy, sizeOf, typeInfo, hi, hz, Value.cells, hrun]
  exact h _ (setRow_put hg)
theorem wpList_store_row {ops : Array Oper} {rest : List Oper} {o : Oper} {a : Act} {Q : Exit → Act → World → Prop} (hgd : o.guard = none) (ty : TypeId) (x y : Operand) (ho : o.op = .store ty x y)
    (g : Nat) (t : TypeId) (old cs : Array Value) (hx : a.eval x = .pointer (some ⟨g, 0, none⟩)) (hy : a.eval y = .agg cs) (hg : RowAt w g t old) (hs : old.size = cs.size) (hi : (P.info? ty).map (·.size) = some cs.size)
    (h1 : ∀ u ∈ cs.toList, u.oneCell' = true)
    (h : ∀ w', PutRow w g t cs w' → wpList P ops Q rest (a.put o.dst undef) w') : wpList P ops Q (o :: rest) a w :=
  wpList_plain hgd fun _ hK => wp_store_row ty x y ho g t old cs hx hy hg hs hi h1 fun w' hn => hK _ _ (h w' hn)

/-- A guarded operation whose guard says yes. -/
theorem wpList_wanted {ops : Array Oper} {rest : List Oper} {o : Oper} {a : Act} {Q : Exit → Act → World → Prop} (hw : Region.wanted o (yielded ops a.tmps) = true)
    (h : ∀ K : Act → World → Prop, (∀ a w, wpList P ops Q rest a w → K a w) → o.wp P a w K Q) : wpList P ops Q (o :: rest) a w :=
  wpList_step fun K hK => by rw [if_pos hw]; exact h K hK
theorem wpListG_load_row {ops : Array Oper} {rest : List Oper} {o : Oper} {a : Act} {Q : Exit → Act → World → Prop} (ty : TypeId) (x : Operand) (ho : o.op = .load ty x) (hw : Region.wanted o (yielded ops a.tmps) = true)
    (g : Nat) (hx : a.eval x = .pointer (some ⟨g, 0, none⟩)) (t : TypeId) (cs : Array Value) (d : TypeDesc) (hg : RowAt w g t cs)
    (hu : P.underlying ty = some d) (hd : (match d with | .struct _ | .array _ _ => true | _ => false) = true) (hi : (P.info? ty).map (·.size) = some cs.size)
    (h : wpList P ops Q rest (a.put o.dst (.agg cs)) w) : wpList P ops Q (o :: rest) a w :=
  wpList_wanted hw fun _ hK => wp_load_row ty x ho g hx t cs (0, 0) d hg hu hd hi (hK _ _ h)

theorem ret_row_tmp {fn : Func} {p u : Tmp} {ty : TypeId} (h : fn.results = #[.cell p ty, .tmp u]) (tmps : Array Value) (g : Nat) (t : TypeId) (cs : Array Value) (d : TypeDesc)
    (hp : tmps.getD p undef = .pointer (some ⟨g, 0, none⟩)) (hg : RowAt w g t cs)
    (hu : P.underlying ty = some d) (hd : (match d with | .struct _ | .array _ _ => true | _ => false) = true) (hi : (P.info? ty).map (·.size) = some cs.size) :
    (results fn tmps).run P w = .ok (.tuple #[.agg cs, tmps.getD u undef]) w := by
  rw [results_cell_tmp h, hp]
  simp [asAddr, run_loadVar_row w g t ty cs (0, 0) d hg hu hd hi]
end
end Go.Proofs.Ythipdfmaaeoijaa
end
section
namespace Go.Proofs.Ythipdfmaaeoijaa
open Go.RowKit
set_option linter.unusedVariables false

theorem wpList_val {P : Program} {w : World} {ops : Array Oper} {rest : List Oper} {o : Oper} {a : Act} {Q : Exit → Act → World → Prop} (hgd : o.guard = none) (v : Value) (hr : (execOp a.eval o).run P w = .ok (.value v) w) (h : wpList P ops Q rest (a.put o.dst v) w) : wpList P ops Q (o :: rest) a w :=
  wpList_plain hgd fun _ hK => by
    unfold Oper.wp
    rw [hr]
    exact hK _ _ h
theorem wp_val {P : Program} {w : World} {o : Oper} {a : Act} {K : Act → World → Prop} {Q : Exit → Act → World → Prop} (v : Value) (hr : (execOp a.eval o).run P w = .ok (.value v) w) (h : K (a.put o.dst v) w) : o.wp P a w K Q := by
  unfold Oper.wp
  rw [hr]
  exact h
theorem wpListG_val {P : Program} {w : World} {ops : Array Oper} {rest : List Oper} {o : Oper} {a : Act} {Q : Exit → Act → World → Prop} (hw : Region.wanted o (yielded ops a.tmps) = true) (v : Value) (hr : (execOp a.eval o).run P w = .ok (.value v) w) (h : wpList P ops Q rest (a.put o.dst v) w) : wpList P ops Q (o :: rest) a w :=
  wpList_wanted hw fun _ hK => by
    unfold Oper.wp
    rw [hr]
    exact hK _ _ h
theorem run_builtOp {P : Program} {w : World} {o : Oper} {a : Act} (ty : TypeId) (parts : Array (Nat × Operand)) (ho : o.op = .build ty parts) (cells : Array Value) (hb : P.built ty (parts.map fun (i, x) => (i, a.eval x)).toList = some cells) : (execOp a.eval o).run P w = .ok (.value (.agg cells)) w := by
  have hr := run_build (P := P) w ty _ cells hb
  unfold execOp
  simp only [ho]
  simp only [Sem.run_bind, Sem.run_pure, hr, Result.andThen_ok]
end Go.Proofs.Ythipdfmaaeoijaa
end
section
namespace Go.Proofs.Ythipdfmaaeoijaa
open Go.RowKit
set_option linter.unusedVariables false
set_option maxRecDepth 20000

def entV (kd : IntKind) (p : Nat × Value) : Value × Value := (.int kd (p.1 : Int), p.2)
/-- A map's object. -/
def MapO (kd : IntKind) (m : List (Nat × Value)) (o : Obj) : Prop :=
  ∃ (es : Array MapEntry) (c : Nat), o = .map es c ∧ es.toList.map (fun e => (e.key, e.val)) = m.map (entV kd) ∧ (es.toList.map (·.born)).Nodup ∧ ∀ e ∈ es.toList, e.born < c
theorem MapO.empty (kd : IntKind) : MapO kd [] (.map #[] 0) := ⟨#[], 0, rfl, rfl, by simp, by simp⟩
/-- A map, or none. -/
def MapIn (kd : IntKind) (w : World) (mb : Option Nat) (m : List (Nat × Value)) : Prop := match mb with
  | none => m = []
  | some g => ∃ o, w.heap[g]? = some o ∧ MapO kd m o
theorem MapIn.kept {kd : IntKind} {w w' : World} {mb : Option Nat} {m : List (Nat × Value)} (h : MapIn kd w mb m) (hb : Below w.heap.size w w') : MapIn kd w' mb m := by
  cases mb with
  | none => exact h
  | some g =>
    obtain ⟨o, ho, hm⟩ := h
    exact ⟨o, (hb.block g (Array.getElem?_eq_some_iff.1 ho).1).trans ho, hm⟩

def scanV (k : Nat) : List (Nat × Value) → Nat → Option (Nat × Value)
  | [], _ => none
  | p :: m, i => if k = p.1 then some (i, p.2) else scanV k m (i + 1)
/-- What stands beside k. -/
def findV (k : Nat) : List (Nat × Value) → Option Value
  | [] => none
  | p :: m => if k = p.1 then some p.2 else findV k m
/-- What is left without k. -/
def dropV (k : Nat) : List (Nat × Value) → List (Nat × Value)
  | [] => []
  | p :: m => if k = p.1 then m else p :: dropV k m
theorem scan_find (k : Nat) : ∀ (m : List (Nat × Value)) (i : Nat), (scanV k m i).map (·.2) = findV k m
  | [], _ => rfl
  | p :: m, i => by
    unfold scanV findV
    split
    · rfl
    · exact scan_find k m (i + 1)
theorem scan_drop (k : Nat) : ∀ (m : List (Nat × Value)) (i j : Nat) (v : Value), scanV k m i = some (j, v) → i ≤ j ∧ j - i < m.length ∧ m.eraseIdx (j - i) = dropV k m
  | [], _, _, _, h => by cases h
  | p :: m, i, j, v, h => by
    unfold scanV at h
    unfold dropV
    by_cases e : k = p.1
    · rw [if_pos e] at h
      rw [if_pos e]
      cases h
      simp
    · rw [if_neg e] at h
      rw [if_neg e]
      obtain ⟨h1, h2, h3⟩ := scan_drop k m (i + 1) j v h
      obtain ⟨d, hd⟩ : ∃ d, j - i = d + 1 := ⟨j - i - 1, by omega⟩
      rw [show j - (i + 1) = d by omega] at h2 h3
      rw [hd]
      refine ⟨by omega, by simpa using h2, ?_⟩
      rw [List.eraseIdx_cons_succ, h3]
theorem scan_none (k : Nat) (m : List (Nat × Value)) (i : Nat) (h : findV k m = none) : scanV k m i = none := by
  have := scan_find k m i
  rw [h] at this
  simpa using this
theorem findNow_scan {kd : IntKind} (k : Nat) : ∀ (m : List (Nat × Value)) (es : List MapEntry) (i : Nat), es.map (fun e => (e.key, e.val)) = m.map (entV kd) → Instr.findNow (.int kd) (.int kd (k : Int)) es i = some (scanV k m i)
  | [], [], i, _ => rfl
  | [], e :: es, i, h => by simp at h
  | p :: m, [], i, h => by simp at h
  | p :: m, e :: es, i, h => by
    simp only [List.map_cons, List.cons.injEq] at h
    obtain ⟨h1, h2⟩ := h
    have hk : e.key = .int kd (p.1 : Int) := congrArg (·.1) h1
    have hv : e.val = p.2 := congrArg (·.2) h1
    have ih := findNow_scan k m es (i + 1) h2
    unfold Instr.findNow scanV
    by_cases e1 : k = p.1
    · simp [hk, hv, Instr.sameNow, e1]
    · have : ((k : Int) == (p.1 : Int)) = false := by rw [beq_eq_false_iff_ne]; omega
      simp [hk, Instr.sameNow, this, e1, ih]
theorem map_erase {α β : Type} (f : α → β) : ∀ (l : List α) (i : Nat), (l.eraseIdx i).map f = (l.map f).eraseIdx i
  | [], _ => rfl
  | _ :: _, 0 => rfl
  | a :: l, i + 1 => by simp [map_erase f l i]
section
variable {P : Program} {kd : IntKind} {kt et mt : TypeId}
theorem run_findV (w : World) (hk : P.underlying kt = some (.int kd)) (k : Nat) (m : List (Nat × Value)) (es : List MapEntry) (h : es.map (fun e => (e.key, e.val)) = m.map (entV kd)) :
    (Instr.findKey kt (.int kd (k : Int)) es).run P w = .ok (scanV k m 0) w := by
  unfold Instr.findKey
  simp [Sem.run_bind, run_underlying hk, findNow_scan k m es 0 h]
theorem run_checkV (w : World) (em : Bool) (hk : P.underlying kt = some (.int kd)) (k : Int) : (Instr.checkKey em 10000 kt (.int kd k)).run P w = .ok () w := by
  rw [Instr.checkKey]
  simp [Sem.run_bind, run_underlying hk]
/-- What a look-up hands back. -/
def seenV (b : Bool) (z : Value) (r : Option Value) : Value := if b then .tuple #[r.getD z, .bool r.isSome] else r.getD z
theorem run_lookV {w : World} {o : Oper} {a : Act} (x y : Operand) (b : Bool) (ho : o.op = .lookup mt x y b) (mb : Option Nat) (k : Nat) (m : List (Nat × Value)) (hx : a.eval x = .map mb) (hy : a.eval y = .int kd (k : Int)) (hM : MapIn kd w mb m)
    (hmt : P.underlying mt = some (.map kt et)) (hk : P.underlying kt = some (.int kd)) (z : Value) (hz : (P.info? et).map (·.zero) = some (some z)) :
    (execOp a.eval o).run P w = .ok (.value (seenV b z (findV k m))) w := by
  have hc := fun em => run_checkV (P := P) w em hk (k : Int)
  have hz2 : (zeroValue et).run P w = .ok z w := by
    obtain ⟨i, hi, hz⟩ := Option.map_eq_some_iff.1 hz
    simp [zeroValue, typeInfo, hi, hz]
  have hfv := scan_find k m 0
  have key : (Instr.lookup mt (.map mb) (.int kd (k : Int)) b).run P w = .ok (seenV b z (findV k m)) w := by
    cases mb with
    | none =>
      have hm : m = [] := hM
      subst hm
      have hf := run_findV (P := P) w hk k [] [] rfl
      have hf2 : (Instr.findKey kt (.int kd (k : Int)) #[].toList).run P w = .ok none w := hf
      cases b <;> simp [Instr.lookup, run_underlying hmt, hc, hf, hz2, Result.andThen, findV, seenV, scanV]
    | some g =>
      obtain ⟨ob, hg, es, c, rfl, h2, _, _⟩ := hM
      have hf := run_findV (P := P) w hk k m es.toList h2
      rcases hs : scanV k m 0 with _ | ⟨j, v⟩
      · rw [hs] at hf hfv
        have hfn : findV k m = none := hfv.symm
        cases b <;> simp [Instr.lookup, run_underlying hmt, MapKept.run_getObj_map hg, hc, hf, hz2, hfn, Result.andThen, seenV]
      · rw [hs] at hf hfv
        have hfn : findV k m = some v := hfv.symm
        cases b <;> simp [Instr.lookup, run_underlying hmt, MapKept.run_getObj_map hg, hc, hf, hfn, Result.andThen, seenV]
  unfold execOp
  simp only [ho, hx, hy]
  simp only [Sem.run_bind, key, Result.andThen_ok, Sem.run_pure]
/-- How many there are. -/
theorem run_lenV {w : World} {o : Oper} {a : Act} (x : Operand) (ho : o.op = .call { callee := .builtin .len, args := #[x], argTypes := #[mt] }) (mb : Option Nat) (m : List (Nat × Value)) (hx : a.eval x = .map mb) (hM : MapIn kd w mb m)
    (hmt : P.underlying mt = some (.map kt et)) : (execOp a.eval o).run P w = .ok (.value (.int .i64 (m.length : Int))) w := by
  have key : (Builtin.len_ #[mt] o.type #[.map mb]).run P w = .ok (.int .i64 (m.length : Int)) w := by
    cases mb with
    | none =>
      have hm : m = [] := hM
      subst hm
      simp [Builtin.len_, run_underlying hmt, goInt, Result.andThen]
    | some g =>
      obtain ⟨ob, hg, es, c, rfl, h2, _, _⟩ := hM
      have hl : es.size = m.length := by simpa using congrArg List.length h2
      simp [Builtin.len_, run_underlying hmt, MapKept.run_getObj_map hg, goInt, Result.andThen, hl]
  simp [execOp, ho, resolve, invoke, builtin, hx, key, Result.andThen]
/-- A map held against nil. -/
theorem run_eqlV0 (w : World) (n : Nat) (t k e : TypeId) (mb : Option Nat) (h : P.underlying t = some (.map k e)) : (Op.equalIn (n + 1) t (.map mb) (.map none)).run P w = .ok mb.isNone w := by
  cases mb <;> simp [Op.equalIn, run_underlying h]
theorem run_eqlV (w : World) (t k e : TypeId) (mb : Option Nat) (h : P.underlying t = some (.map k e)) : (binOp .eql t (.map mb) (.map none)).run P w = .ok (.bool mb.isNone) w := by
  simp only [binOp]
  simp [Op.equal, Op.maxDepth, run_eqlV0 w 9999 t k e mb h]
theorem turned_map {w : World} {g : Nat} {o o' : Obj} (hg : w.heap[g]? = some o) : ({ w with heap := w.heap.setIfInBounds g o' } : World).heap[g]? = some o' ∧ w.grownBy { w with heap := w.heap.setIfInBounds g o' } (some g) := by
  have hgl : g < w.heap.size := (Array.getElem?_eq_some_iff.1 hg).1
  refine ⟨?_, rfl, rfl, rfl, by simp, fun i _ hne => ?_⟩
  · show (w.heap.setIfInBounds g _)[g]? = _
    rw [Array.getElem?_setIfInBounds_self_of_lt hgl]
  · show (w.heap.setIfInBounds g _)[i]? = _
    rw [Array.getElem?_setIfInBounds_ne (fun e => hne (by rw [e]))]
/-- A new key is stored. -/
theorem wpList_newV {w : World} {ops : Array Oper} {rest : List Oper} {o : Oper} {a : Act} {Q : Exit → Act → World → Prop} (hgd : o.guard = none) (x y z : Operand) (ho : o.op = .mapUpdate mt x y z) (g k : Nat) (v : Value) (m : List (Nat × Value)) (ob : Obj) (hx : a.eval x = .map (some g)) (hy : a.eval y = .int kd (k : Int)) (hzv : a.eval z = v)
    (hg : w.heap[g]? = some ob) (hM : MapO kd m ob) (hn : findV k m = none) (hmt : P.underlying mt = some (.map kt et)) (hk : P.underlying kt = some (.int kd))
    (h : ∀ w' ob', w'.heap[g]? = some ob' → MapO kd (m ++ [(k, v)]) ob' → w.grownBy w' (some g) → wpList P ops Q rest (a.put o.dst undef) w') : wpList P ops Q (o :: rest) a w := by
  refine wpList_plain hgd fun _ hK => ?_
  obtain ⟨es, c, rfl, h2, h3, h4⟩ := hM
  have hc := run_checkV (P := P) w false hk (k : Int)
  have hf := run_findV (P := P) w hk k m es.toList h2
  rw [scan_none k m 0 hn] at hf
  have key : (Instr.mapUpdate mt (.map (some g)) (.int kd (k : Int)) v).run P w = .ok () { w with heap := w.heap.setIfInBounds g (.map (es.push { key := .int kd (k : Int), val := v, born := c }) (c + 1)) } := by
    simp [Instr.mapUpdate, run_underlying hmt, MapKept.run_getObj_map hg, hc, hf, MapKept.run_setObj_map _ hg, Result.andThen]
  unfold Oper.wp execOp
  simp only [ho, hx, hy, hzv]
  simp only [Sem.run_bind, key, Result.andThen_ok, Sem.run_pure]
  obtain ⟨q1, q2⟩ := turned_map (o' := .map (es.push { key := .int kd (k : Int), val := v, born := c }) (c + 1)) hg
  refine hK _ _ (h _ _ q1 ⟨_, _, rfl, ?_, ?_, ?_⟩ q2)
  · simp [h2, entV]
  · rw [Array.toList_push, List.map_append]
    refine List.nodup_append.2 ⟨h3, by simp, fun x hx y hy e => ?_⟩
    obtain ⟨e0, he0, rfl⟩ := List.mem_map.1 hx
    have := h4 e0 he0
    have hyc : y = c := by simpa using hy
    omega
  · intro e he
    rw [Array.toList_push] at he
    rcases List.mem_append.1 he with he | he
    · have := h4 e he
      omega
    · have : e = { key := .int kd (k : Int), val := v, born := c } := by simpa using he
      rw [this]
      exact Nat.lt_succ_self _
/-- A key is dropped. -/
theorem wpList_dropV {w : World} {ops : Array Oper} {rest : List Oper} {o : Oper} {a : Act} {Q : Exit → Act → World → Prop} (hgd : o.guard = none) (x y : Operand) (ho : o.op = .call { callee := .builtin .delete, args := #[x, y], argTypes := #[mt, kt] }) (g k : Nat) (v : Value) (m : List (Nat × Value)) (ob : Obj) (hx : a.eval x = .map (some g)) (hy : a.eval y = .int kd (k : Int))
    (hg : w.heap[g]? = some ob) (hM : MapO kd m ob) (hn : findV k m = some v) (hmt : P.underlying mt = some (.map kt et)) (hk : P.underlying kt = some (.int kd))
    (h : ∀ w' ob', w'.heap[g]? = some ob' → MapO kd (dropV k m) ob' → w.grownBy w' (some g) → wpList P ops Q rest (a.put o.dst (.tuple #[])) w') : wpList P ops Q (o :: rest) a w := by
  refine wpList_plain hgd fun _ hK => ?_
  obtain ⟨es, c, rfl, h2, h3, h4⟩ := hM
  have hc := fun em => run_checkV (P := P) w em hk (k : Int)
  have hf := run_findV (P := P) w hk k m es.toList h2
  have hfv := scan_find k m 0
  rw [hn] at hfv
  obtain ⟨⟨j, v'⟩, hs, hv⟩ := Option.map_eq_some_iff.1 hfv
  simp only at hv
  subst hv
  obtain ⟨_, hj, hd⟩ := scan_drop k m 0 j v' hs
  rw [Nat.sub_zero] at hj hd
  rw [hs] at hf
  have hl : es.size = m.length := by simpa using congrArg List.length h2
  have hje : j < es.size := by omega
  have he : (es.eraseIdxIfInBounds j).toList = es.toList.eraseIdx j := by
    rw [Array.eraseIdxIfInBounds, dif_pos hje, Array.toList_eraseIdx]
  have key : (Builtin.delete_ #[mt, kt] o.type #[.map (some g), .int kd (k : Int)]).run P w = .ok (.tuple #[]) { w with heap := w.heap.setIfInBounds g (.map (es.eraseIdxIfInBounds j) c) } := by
    simp [Builtin.delete_, run_underlying hmt, MapKept.run_getObj_map hg, hc, hf, MapKept.run_setObj_map _ hg, Result.andThen]
  obtain ⟨q1, q2⟩ := turned_map (o' := .map (es.eraseIdxIfInBounds j) c) hg
  unfold Oper.wp
  simp [execOp, ho, resolve, invoke, builtin, hx, hy, key, Result.andThen]
  refine hK _ _ (h _ _ q1 ⟨_, _, rfl, ?_, ?_, ?_⟩ q2)
  · rw [he, ← hd]
    rw [map_erase, map_erase, h2]
  · rw [he]
    exact List.Nodup.sublist ((List.eraseIdx_sublist _ _).map _) h3
  · intro e h5
    rw [he] at h5
    exact h4 e (List.mem_of_mem_eraseIdx h5)
end
end Go.Proofs.Ythipdfmaaeoijaa
end
section
namespace Go.Proofs.Ythipdfmaaeoijaa
set_option linter.unusedVariables false

section
variable {P : Program} {ops : Array Oper} {md : Region.Mode} {C : World → Prop}

/-- In whatever order the first operations come up, each is quiet; behind them L. -/
def headQ (P : Program) (md : Region.Mode) (ops : Array Oper) (C : World → Prop) (n : Nat) (L : Array Bool → Act → Prop) : Nat → Array Bool → Act → Prop
  | 0 => L
  | f + 1 => fun listed a => Region.ready md ops listed ≠ [] ∧ ∀ i ∈ Region.ready md ops listed, i < n ∧ qOp P ops C i (headQ P md ops C n L f (listed.setIfInBounds i true)) a

theorem any_of_headQ {n g : Nat} {L : Array Bool → Act → Prop} {Q : Exit → Act → World → Prop} (hL : ∀ listed a w, C w → L listed a → wpAny P md ops Q g listed a w) (f : Nat) :
    ∀ (listed : Array Bool) (a : Act) (w : World), C w → headQ P md ops C n L f listed a → wpAny P md ops Q (f + g) listed a w := by
  induction f with
  | zero => intro listed a w hw h; rw [Nat.zero_add]; exact hL _ _ _ hw h
  | succ f ih =>
    intro listed a w hw h
    rw [show f + 1 + g = (f + g) + 1 by omega]
    exact ⟨fun h0 => absurd h0 h.1, fun i hi => wpOp_of_qOp hw (fun a' w' hw' h' => ih _ a' w' hw' h') (h.2 i hi).2⟩

/-- What of the head is ready may be taken first. -/
theorem headQ_first {n i : Nat} {oi : Oper} {v : Value} {L : Array Bool → Act → Prop} (hi : ops[i]? = some oi) (hsel : ∀ (j : Nat) (o : Oper) cs b, ops[j]? = some o → o.op ≠ .select cs b)
    (hs : Region.sinkB md ops n = true) (hc : Region.chainB md ops n = true) (hn : n < ops.size) (hin : i < n)
    (hdone : ∀ listed a, L listed a → ∀ j ∈ Region.ready md ops listed, n ≤ j) (f : Nat) :
    ∀ (listed : Array Bool) (a : Act), HeadInv md ops n listed →
      (∀ j oj, ops[j]? = some oj → j ≠ i → listed.getD j true = false → (∀ e ∈ oj.after, Region.binds md e = true → e.on ≠ i) → oi.apart ops oj = true) →
      i ∈ Region.ready md ops listed → YieldsIn P ops C oi v a →
      headQ P md ops C n L f (listed.setIfInBounds i true) (a.put oi.dst v) → headQ P md ops C n L (f + 1) listed a := by
  induction f with
  | zero =>
    intro listed a inv _ hr hy H
    refine ⟨fun h0 => (by rw [h0] at hr; cases hr), fun j hj => ?_⟩
    have hlt : j < n := Nat.lt_of_not_le fun hge => tail_waits hs hc hn inv _ i rfl hin (mem_ready.1 hr).1 j hge hj
    refine ⟨hlt, ?_⟩
    by_cases e : j = i
    · rw [e]; exact hy.qOp hi H
    · exact absurd hlt (Nat.not_lt.2 (hdone _ _ H j (ready_mono hj e)))
  | succ f ih =>
    intro listed a inv free hr hy H
    refine ⟨fun h0 => (by rw [h0] at hr; cases hr), fun j hj => ?_⟩
    have hlt : j < n := Nat.lt_of_not_le fun hge => tail_waits hs hc hn inv _ i rfl hin (mem_ready.1 hr).1 j hge hj
    refine ⟨hlt, ?_⟩
    by_cases e : j = i
    · rw [e]; exact hy.qOp hi H
    · obtain ⟨hun, oj, hoj, hall⟩ := mem_ready.1 hj
      have hno : ∀ x ∈ oj.after, Region.binds md x = true → x.on ≠ i := fun x hx hb hon => by
        have h1 := hall x hx hb
        rw [hon, getD_both (mem_ready.1 hr).1] at h1
        cases h1
      have hboth := qOp_put hoj (free j oj hoj e hun hno) (fun cs b => hsel i oi cs b hi) (fun cs b => hsel j oj cs b hoj) hy (H.2 j (ready_mono hj e)).2
      refine qOp_mono (fun a' h3 => ?_) hboth
      refine ih _ a' (inv.set hj hlt) (fun k ok hk hki hkun hkno => ?_) (ready_mono hr (Ne.symm e)) h3.1 ?_
      · refine free k ok hk hki ?_ hkno
        rcases Nat.decEq j k with hne | heq
        · rwa [getD_set_ne true hne] at hkun
        · rw [← heq]; exact hun
      · rw [Array.setIfInBounds_comm _ _ e]; exact h3.2

theorem headQ_lex {n g : Nat} {K : Act → Prop} (hsel : Region.noSelect ops = true) (hs : Region.sinkB md ops n = true) (hc : Region.chainB md ops n = true) (hn : n < ops.size) (l : List Oper) :
    ∀ (k : Nat) (listed : Array Bool) (a : Act), (∀ j, j < l.length → l[j]? = ops[k + j]?) → k + l.length = n → HeadInv md ops n listed →
    Region.lexHead md ops g l.length k listed = true → wpQuiet P ops C K l a →
    headQ P md ops C n (fun listed' a' => Region.seqB md ops g n listed' = true ∧ K a') l.length listed a := by
  induction l with
  | nil =>
    intro k listed a _ hk _ hB h
    obtain rfl : k = n := by simpa using hk
    exact ⟨by simpa [Region.lexHead] using hB, h⟩
  | cons o l ih =>
    intro k listed a hl hk inv hB h
    simp only [List.length_cons, Region.lexHead, Bool.and_eq_true] at hB hk
    have h0 : ops[k]? = some o := by simpa using (hl 0 (by simp)).symm
    have hst : qOp P ops C k (wpQuiet P ops C K l) a := by unfold qOp; simp only [h0]; exact h
    obtain ⟨v, hy, hK⟩ := yieldsIn_of_qOp h0 hst
    have hr : k ∈ Region.ready md ops listed := by simpa using hB.1.1
    refine headQ_first h0 (Region.noSelect_spec hsel) hs hc hn (by omega) (fun _ _ hL => seqB_ready hL.1) l.length listed a inv (Region.free_spec h0 hB.1.2) hr hy ?_
    refine ih (k + 1) _ _ (fun j hj => ?_) (by omega) (inv.set hr (by omega)) hB.2 hK
    have := hl (j + 1) (by simp; omega)
    simpa [Nat.add_assoc, Nat.add_comm 1 j] using this

/-- THE WAY IN: the first n operations quiet in 'w after some draws', walked in the text's order; the others in one row. -/
theorem region_quiet_tail {id : Nat} {Q : Exit → Act → World → Prop} {a : Act} {w : World} {l : List Oper} (n : Nat) (hm : P.follows .mixedOrders = true) (hB : Region.lexTailB .any l.toArray n = true)
    (h : wpQuiet P l.toArray (fun w' => ∃ n, w' = w.drewN n) (fun a' => ∀ w', (∃ n, w' = w.drewN n) → wpList P l.toArray Q (l.drop n) a' w') (l.take n) a) : (Code.region id l.toArray true).wp P Q a w := by
  simp only [Region.lexTailB, Bool.and_eq_true, decide_eq_true_eq] at hB
  obtain ⟨⟨⟨⟨hsel, hn⟩, hs⟩, hc⟩, hlex⟩ := hB
  have hn' : n < l.length := by simpa using hn
  have htl : (l.take n).length = n := by rw [List.length_take]; omega
  have hdl : (l.drop n).length = l.toArray.size - n := by simp
  have H := headQ_lex (md := .any) (g := l.toArray.size - n) hsel hs hc hn (l.take n) 0 (Array.replicate l.toArray.size false) a
    (fun j hj => by rw [htl] at hj; simp [hj]) (by rw [htl]; omega)
    ⟨by simp, fun j oj _ hl => (by rw [getD_replicate_false] at hl; cases hl), fun t _ ht => getD_in (by simpa using ht) (getD_replicate_false _ _)⟩ (by rw [htl]; exact hlex) h
  refine wp_region_any hm ?_
  have A := any_of_headQ (Q := Q) (g := l.toArray.size - n) (fun listed a' w' hw' hL => by
    have := wpAny_of_seq (md := .any) (Q' := Q) (l.drop n) n listed a' w' (fun j => by simp [List.getElem?_drop]) (by rw [hdl]; exact hL.1) (hL.2 w' hw')
    rwa [hdl] at this) (l.take n).length _ _ { w with drawn := w.drawn + 1 } ⟨1, rfl⟩ H
  rw [htl, show n + (l.toArray.size - n) = l.toArray.size by omega] at A
  exact A
end
end Go.Proofs.Ythipdfmaaeoijaa
end
