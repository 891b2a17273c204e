/-
  Texts that belong together, merged: Mem, OctMath, B, C, D, Row, K, L. Conditions: as each theorem names them.
-/
import Derived.WalkKit
import Derived.OwnWalk
import Derived.Below
import Derived.Deep.Draws
import Derived.Lib.Hide
import Derived.OpenShut
import Derived.Deep.AppendLies
import Derived.Laws.BytesArg
import Derived.Test.YtmhhjdiilmgmoaaChecked
import Derived.LoopTactic
import Derived.RegionTactic
import Derived.Deep.QuietTactic
import Derived.BigQuiet
import Derived.Outline
import Derived.WalkSpells
import Derived.WalkLawsBesides
import Derived.Laws.Rows
import Derived.Laws.CopyRow
import Derived.Laws.CopyOwn
import Derived.Laws.ResultCell
import Derived.Deep.RegionLaw
section
namespace Go.Proofs.Ytmhhjdiilmgmoaa
open Go.RowKit

/-- The cells of a list of bytes. -/
def cellsB (l : List UInt8) : List Value := l.map fun b => Value.int .u8 (b.toNat : Int)

theorem cellsB_length (l : List UInt8) : (cellsB l).length = l.length := by simp [cellsB]
theorem cellsB_append (a b : List UInt8) : cellsB (a ++ b) = cellsB a ++ cellsB b := by simp [cellsB]
theorem cellsB_get (l : List UInt8) (j : Nat) (h : j < l.length) : (cellsB l)[j]? = some (.int .u8 (l[j].toNat : Int)) := by
  simp [cellsB, h]
theorem cellsB_one (l : List UInt8) : ∀ u ∈ cellsB l, u.oneCell' = true := by
  intro u hu
  obtain ⟨b, _, rfl⟩ := List.mem_map.1 hu
  rfl

/-- THE SLICE VALUE v READS AS THE BYTES l in the world w (nil and empty are one). -/
def Bs (w : World) (v : Value) (l : List UInt8) : Prop :=
  ∃ A c, v = .slice A l.length c ∧ l.length ≤ c ∧ c ≤ maxLen ∧
    (0 < l.length → ∃ b off, A = some ⟨b, off, none⟩ ∧ ∀ j (h : j < l.length), w.cell? ⟨b, off + j, none⟩ = some (.int .u8 (l[j].toNat : Int)))

theorem Bs.nil (w : World) : Bs w (.slice none 0 0) [] := ⟨none, 0, rfl, Nat.le_refl _, by simp [maxLen], fun h => absurd h (by simp)⟩

theorem Bs.keep {w w' : World} {v : Value} {l : List UInt8} (h : Bs w v l) (hk : ∀ p : Addr, p.block < w.heap.size → w'.cell? p = w.cell? p) : Bs w' v l := by
  obtain ⟨A, c, hv, h1, h2, h3⟩ := h
  refine ⟨A, c, hv, h1, h2, fun hl => ?_⟩
  obtain ⟨b, off, hA, hc⟩ := h3 hl
  exact ⟨b, off, hA, fun j hj => (hk _ (World.block_lt_of_cell? w _ (hc j hj))).trans (hc j hj)⟩

theorem Bs.below {w w' : World} {v : Value} {l : List UInt8} (h : Bs w v l) (hb : Below w.heap.size w w') : Bs w' v l := h.keep fun _ hp => hb.cell hp
theorem Bs.drew {w : World} {v : Value} {l : List UInt8} (h : Bs w v l) : Bs w.drew v l := h
theorem Bs.drewN {w : World} {v : Value} {l : List UInt8} (h : Bs w v l) (n : Nat) : Bs (w.drewN n) v l := h
theorem Bs.alloc {w : World} {v : Value} {l : List UInt8} (h : Bs w v l) (o : Obj) : Bs (w.alloc o) v l := h.keep fun p hp => World.cell?_alloc_lt w o p hp
theorem Bs.len {w : World} {v : Value} {l : List UInt8} (h : Bs w v l) : l.length ≤ maxLen := by
  obtain ⟨_, c, _, h1, h2, _⟩ := h
  exact Nat.le_trans h1 h2

theorem Bs.of_own {w : World} {base : Nat} {e : TypeId} {v : Value} {l : List UInt8} {n : Nat} (h : w.ownsRow base e 1 v n (cellsB l)) : Bs w v l := by
  have hn : n = l.length := by have := h.1; simp [cellsB_length] at this; omega
  subst hn
  rcases h.2 with ⟨rfl, hl⟩ | ⟨g, cap, cur, rfl, hb, hg, hnc, hcm, hs, htake⟩
  · have : l = [] := List.eq_nil_of_length_eq_zero hl
    subst this
    exact Bs.nil w
  · refine ⟨_, cap, rfl, hnc, hcm, fun _ => ⟨g, 0, rfl, fun j hj => ?_⟩⟩
    rw [Nat.zero_add]
    have := h.cellAt j (by omega)
    rw [this, cellsB_get l j hj]

theorem below_drewN {B : Nat} {a w : World} (h : Below B a w) (n : Nat) : Below B a (w.drewN n) := ⟨h.os, h.tape, h.output, h.size, h.block⟩
theorem below_size {a w w' : World} (h : Below a.heap.size a w) (k : Below w.heap.size w w') : Below a.heap.size a w' := h.trans (k.mono h.size)

/-- A call came back with a slice that reads as l; what was there is as it was. -/
def RetBs (w : World) (l : List UInt8) (e : Ending) (w' : World) : Prop := ∃ v, e = .returned v ∧ Bs w' v l ∧ Below w.heap.size w w'

/-- A call came back with the value v; what was there is as it was. -/
def RetV (w : World) (v : Value) (e : Ending) (w' : World) : Prop := e = .returned v ∧ Below w.heap.size w w'

theorem RetV.quiet {w : World} {v : Value} {e : Ending} {w' : World} (h : e = .returned v ∧ ∃ n, w' = w.drewN n) : RetV w v e w' := by
  obtain ⟨h, n, rfl⟩ := h
  exact ⟨h, below_drewN (Below.refl _ _) n⟩

/-- The call's own row of bytes (its block's number is at least base; nil, as long as nothing is in it). -/
def OwnB (w : World) (base : Nat) (e : TypeId) (v : Value) (l : List UInt8) : Prop := w.ownsRow base e 1 v l.length (cellsB l)
theorem OwnB.bs {w : World} {base : Nat} {e : TypeId} {v : Value} {l : List UInt8} (h : OwnB w base e v l) : Bs w v l := Bs.of_own h
theorem OwnB.nil (w : World) (base : Nat) (e : TypeId) : OwnB w base e (.slice none 0 0) [] := World.ownsRow_nil _ _ _ _
theorem OwnB.alloc {w : World} {base : Nat} {e : TypeId} {v : Value} {l : List UInt8} (h : OwnB w base e v l) (o : Obj) : OwnB (w.alloc o) base e v l := World.ownsRow.alloc h o
theorem OwnB.drew {w : World} {base : Nat} {e : TypeId} {v : Value} {l : List UInt8} (h : OwnB w base e v l) : OwnB w.drew base e v l := h
theorem OwnB.drewN {w : World} {base : Nat} {e : TypeId} {v : Value} {l : List UInt8} (h : OwnB w base e v l) (n : Nat) : OwnB (w.drewN n) base e v l := h
theorem OwnB.below {w w' : World} {base : Nat} {e : TypeId} {v : Value} {l : List UInt8} (h : OwnB w base e v l) (hb : Below w.heap.size w w') : OwnB w' base e v l :=
  World.ownsRow.kept (row := none) h ⟨hb.os, hb.tape, hb.output, hb.size, fun k hk _ => hb.block k hk⟩ (by cases v.ownBlock <;> simp)
theorem OwnB.rows {w : World} {base : Nat} {e : TypeId} {v : Value} {l : List UInt8} (h : OwnB w base e v l) : ∀ k, v.ownBlock = some k → base ≤ k := fun k hk => (World.ownsRow.lt h k hk).1

section
variable {P : Program} (w : World)

/-- append of bytes that are read (nil, empty or not) onto the call's own row. -/
theorem run_appB (base : Nat) (t ty e : TypeId) (hinfo : (P.info? e).map (fun i => (i.zero, i.size, i.bytes)) = some (some (.int .u8 0), 1, 1)) (ht : P.underlying t = some (.slice e))
    (v u : Value) (l m : List UInt8) (hown : OwnB w base e v l) (hu : Bs w u m) (hlen : l.length + m.length ≤ 140737488355328) (hbase : base ≤ w.heap.size) :
    ∃ v' w', (Builtin.append_ #[t, t] ty #[v, u]).run P w = .ok v' w' ∧ OwnB w' base e v' (l ++ m) ∧ w.grownBy w' v.ownBlock := by
  obtain ⟨i, hi, hz0, hz1, hz2⟩ := info_parts hinfo
  obtain ⟨A, c, rfl, h1, h2, h3⟩ := hu
  rcases A with _ | ad
  · have hm : m = [] := by
      rcases m with _ | ⟨b, m⟩
      · rfl
      · obtain ⟨_, _, h, _⟩ := h3 (by simp)
        cases h
    subst hm
    refine ⟨v, w, ?_, by simpa using hown, World.grownBy.refl w _⟩
    rcases World.ownsRow.lt hown with _
    unfold OwnB at hown
    rcases hown.2 with ⟨rfl, _⟩ | ⟨g, cap, cur, rfl, _, _, hnc, _⟩
    · simp [Builtin.append_, run_underlying ht, sizeOf, typeInfo, hi, Builtin.lenOf, Builtin.firstCells]
    · simp [Builtin.append_, run_underlying ht, sizeOf, typeInfo, hi, Builtin.lenOf, Builtin.firstCells, hnc, storeCells]
  · have hcells : ∀ j x, (cellsB m)[j]? = some x → w.cell? (ad.add j) = some x := by
      intro j x hx
      have hj : j < m.length := by
        have := (List.getElem?_eq_some_iff.1 hx).1
        rwa [cellsB_length] at this
      obtain ⟨b, off, h, hc⟩ := h3 (by omega)
      injection h with h
      subst h
      rw [cellsB_get m j hj] at hx
      have hadd : (⟨b, off, none⟩ : Addr).add j = ⟨b, off + j, none⟩ := by unfold Addr.add; split <;> simp_all
      rw [hadd, hc j hj, hx]
    obtain ⟨v', w', hrun, ho, hg, _⟩ := run_append_own (P := P) w base t ty e i (.int .u8 0) 1 1 ht hi hz0 hz1 hz2 rfl (by decide) v l.length (cellsB l) hown ad m.length c (cellsB m) (by simp [cellsB_length]) hcells (cellsB_one m) (by unfold maxLen; omega) (by omega) hbase
    exact ⟨v', w', hrun, by unfold OwnB; rw [cellsB_append, List.length_append]; exact ho, hg⟩

theorem wp_appB {o : Oper} {a : Act} {K : Act → World → Prop} {Q : Exit → Act → World → Prop} (s x : Operand) (t : TypeId)
    (ho : o.op = .call { callee := .builtin .append, args := #[s, x], argTypes := #[t, t] })
    (w0 : World) (e : TypeId) (hinfo : (P.info? e).map (fun i => (i.zero, i.size, i.bytes)) = some (some (.int .u8 0), 1, 1)) (ht : P.underlying t = some (.slice e))
    (v u : Value) (l m : List UInt8) (hs : a.eval s = v) (hx : a.eval x = u) (hown : OwnB w w0.heap.size e v l) (hu : Bs w u m) (hlen : l.length + m.length ≤ 140737488355328) (hb : Below w0.heap.size w0 w)
    (h : ∀ v' w', OwnB w' w0.heap.size e v' (l ++ m) → Below w0.heap.size w0 w' → K (a.put o.dst v') w') : o.wp P a w K Q := by
  obtain ⟨v', w', hr, h2, h3⟩ := run_appB (P := P) w w0.heap.size t o.type e hinfo ht v u l m hown hu hlen hb.size
  unfold Oper.wp execOp
  simp only [ho, resolve, invoke, builtin, Sem.run_bind, Sem.run_pure, Result.andThen_ok, List.map_toArray, List.map_cons, List.map_nil, hs, hx, hr]
  exact h v' w' h2 (hb.grown h3 hb.size hown.rows)

theorem wpList_appB {ops : Array Oper} {rest : List Oper} {o : Oper} {a : Act} {Q : Exit → Act → World → Prop} (hgd : o.guard = none) (s x : Operand) (t : TypeId)
    (ho : o.op = .call { callee := .builtin .append, args := #[s, x], argTypes := #[t, t] })
    (w0 : World) (e : TypeId) (hinfo : (P.info? e).map (fun i => (i.zero, i.size, i.bytes)) = some (some (.int .u8 0), 1, 1)) (ht : P.underlying t = some (.slice e))
    (v u : Value) (l m : List UInt8) (hs : a.eval s = v) (hx : a.eval x = u) (hown : OwnB w w0.heap.size e v l) (hu : Bs w u m) (hlen : l.length + m.length ≤ 140737488355328) (hb : Below w0.heap.size w0 w)
    (h : ∀ v' w', OwnB w' w0.heap.size e v' (l ++ m) → Below w0.heap.size w0 w' → wpList P ops Q rest (a.put o.dst v') w') : wpList P ops Q (o :: rest) a w :=
  wpList_plain hgd fun _ hK => wp_appB w s x t ho w0 e hinfo ht v u l m hs hx hown hu hlen hb fun v' w' h2 h3 => hK _ _ (h v' w' h2 h3)

theorem step_appB {ops : Array Oper} {o : Oper} {a : Act} {K : Act → World → Prop} {Q : Exit → Act → World → Prop} {E : Prop} (hgd : o.guard = none) (s x : Operand) (t : TypeId)
    (ho : o.op = .call { callee := .builtin .append, args := #[s, x], argTypes := #[t, t] })
    (w0 : World) (e : TypeId) (hinfo : (P.info? e).map (fun i => (i.zero, i.size, i.bytes)) = some (some (.int .u8 0), 1, 1)) (ht : P.underlying t = some (.slice e))
    (v u : Value) (l m : List UInt8) (hs : a.eval s = v) (hx : a.eval x = u) (hown : OwnB w w0.heap.size e v l) (hu : Bs w u m) (hlen : l.length + m.length ≤ 140737488355328) (hb : Below w0.heap.size w0 w)
    (h : ∀ v' w', OwnB w' w0.heap.size e v' (l ++ m) → Below w0.heap.size w0 w' → K (a.put o.dst v') w') :
    if Region.wanted o (yielded ops a.tmps) = true then Oper.wp P o a w K Q else E := by
  have hw : Region.wanted o (yielded ops a.tmps) = true := by simp [Region.wanted, hgd]
  rw [if_pos hw]
  exact wp_appB w s x t ho w0 e hinfo ht v u l m hs hx hown hu hlen hb h
end

/-- A slice that a literal has just made. -/
theorem Bs.lit (w : World) (e : TypeId) (l : List UInt8) (c : Array Value) (hc : c.toList = cellsB l) (hm : l.length ≤ maxLen) : Bs (w.alloc (.cells c e)) (.slice (some ⟨w.heap.size, 0, none⟩) l.length l.length) l := by
  have h := World.ownsRow_lit (base := 0) (e := e) (size := 1) w c l.length (Nat.zero_le _) hm (by rw [← Array.length_toList, hc, cellsB_length]; omega)
  rw [hc] at h
  exact Bs.of_own h
theorem Bs.lit1 (w : World) (e : TypeId) (b : UInt8) (x : Int) (hx : x = (b.toNat : Int)) : Bs (w.alloc (.cells #[.int .u8 x] e)) (.slice (some ⟨w.heap.size, 0, none⟩) 1 1) [b] := by
  subst hx
  exact Bs.lit w e [b] _ rfl (by simp [maxLen])
theorem Bs.lit2 (w : World) (e : TypeId) (b c : UInt8) (x y : Int) (hx : x = (b.toNat : Int)) (hy : y = (c.toNat : Int)) : Bs (w.alloc (.cells #[.int .u8 x, .int .u8 y] e)) (.slice (some ⟨w.heap.size, 0, none⟩) 2 2) [b, c] := by
  subst hx hy
  exact Bs.lit w e [b, c] _ rfl (by simp [maxLen])

/-- 'string(b)'. -/
theorem run_convB {P : Program} {w : World} {v : Value} {l : List UInt8} (h : Bs w v l) (src dst e : TypeId) (hs : P.underlying src = some (.slice e)) (he : P.underlying e = some (.int .u8)) (hd : P.underlying dst = some .string) :
    (convert src dst v).run P w = .ok (.string ⟨l.toArray⟩) w := by
  obtain ⟨A, c, rfl, h1, h2, h3⟩ := h
  rcases l with _ | ⟨x, l⟩
  · rcases A with _ | ad
    · exact run_convert_bytes_nil w src e hs he 0 c dst hd
    · rw [run_convert_bytes_string w src dst e _ _ c hs he hd]
      have hl : (loadCells ad 0).run P w = .ok (([] : List Int).map (Value.int .u8)).toArray w := by simp [loadCells, loadCellsFrom]
      exact run_bytesToString w ad 0 c [] hl
  · obtain ⟨b, off, rfl, hc⟩ := h3 (by simp)
    have := run_convert_bytes_arg w src e hs he b off (x :: l).length c ((x :: l).map fun b => (b.toNat : Int)) (by simp) (fun i hi => by
      rw [hc i hi]
      simp only [List.getD_eq_getElem?_getD, List.getElem?_map, List.getElem?_eq_getElem hi]
      rfl) dst hd
    rw [this]
    congr 2
    apply ByteArray.ext
    apply Array.toList_inj.1
    rw [strOfNums_data]
    simp [Function.comp_def]

theorem ret_eq {u v : Value} (h : u = v) : Ending.returned u = .returned v := by rw [h]
theorem ret_int {k : IntKind} {a b : Int} (h : a = b) : Ending.returned (.int k a) = .returned (.int k b) := by rw [h]

theorem made_zeros (n : Nat) : (madeCells (Value.int .u8 0).cells (n * 1)).toList = cellsB (List.replicate n 0) := by
  have : (Value.int .u8 0).cells = #[Value.int .u8 0] := rfl
  rw [this, Nat.mul_one, toList_madeCells_one]
  simp [cellsB]

theorem cellsB_set (l : List UInt8) (j : Nat) (b : UInt8) : (cellsB l).set j (.int .u8 (b.toNat : Int)) = cellsB (l.set j b) := by
  simp [cellsB, List.map_set]

theorem own_put {w : World} {base : Nat} {e : TypeId} {g n cap : Nat} {l : List UInt8} (h : w.ownsRow base e 1 (.slice (some ⟨g, 0, none⟩) n cap) n (cellsB l)) (j : Nat) (b : UInt8) :
    (w.setCell ⟨g, j, none⟩ (.int .u8 (b.toNat : Int))).ownsRow base e 1 (.slice (some ⟨g, 0, none⟩) n cap) n (cellsB (l.set j b)) := by
  rw [← cellsB_set]
  exact (h.stored j _).1
theorem own_cell {w : World} {base : Nat} {e : TypeId} {g n cap : Nat} {l : List UInt8} (h : w.ownsRow base e 1 (.slice (some ⟨g, 0, none⟩) n cap) n (cellsB l)) (j : Nat) (hj : j < l.length) :
    w.cell? ⟨g, j, none⟩ = some (.int .u8 (l[j].toNat : Int)) := by
  have hn : n = l.length := by have := h.1; simp [cellsB_length] at this; omega
  rw [h.cellAt j (by omega), cellsB_get l j hj]
theorem own_some {w : World} {base : Nat} {e : TypeId} {g n cap : Nat} {l : List UInt8} (h : w.ownsRow base e 1 (.slice (some ⟨g, 0, none⟩) n cap) n (cellsB l)) (j : Nat) (hj : j < n) :
    ∃ b : UInt8, w.cell? ⟨g, j, none⟩ = some (.int .u8 (b.toNat : Int)) := by
  have hn : n = l.length := by have := h.1; simp [cellsB_length] at this; omega
  exact ⟨_, own_cell h j (by omega)⟩
end Go.Proofs.Ytmhhjdiilmgmoaa
end
section
namespace Go.Proofs.Ytmhhjdiilmgmoaa

/-- The byte at place i of a number. -/
def byteN (n i : Nat) : UInt8 := UInt8.ofNat (n / 256 ^ i)
theorem byteN_toNat (n i : Nat) : (byteN n i).toNat = n / 256 ^ i % 256 := by
  simp [byteN, UInt8.toNat_ofNat']

/-- A number's lowest s bytes, the lowest one first. -/
def lowB (n s : Nat) : List UInt8 := (List.range s).map (byteN n)
theorem lowB_length (n s : Nat) : (lowB n s).length = s := by simp [lowB]
theorem lowB_succ (n s : Nat) : lowB n (s + 1) = lowB n s ++ [byteN n s] := by simp [lowB, List.range_succ]
theorem lowB_zero (n : Nat) : lowB n 0 = [] := rfl
theorem byteN_div (n i : Nat) : byteN (n / 256) i = byteN n (i + 1) := by
  simp [byteN, Nat.div_div_eq_div_mul, Nat.pow_succ, Nat.mul_comm]
theorem lowB_cons (n s : Nat) : lowB n (s + 1) = byteN n 0 :: lowB (n / 256) s := by
  simp only [lowB, List.range_succ_eq_map, List.map_cons, List.map_map]
  congr 1
  apply List.map_congr_left
  intro i _
  exact (byteN_div n i).symm

/-- As the call has it: none, if the size is not 1 to 8. -/
def lowI (n : Nat) (s : Int) : List UInt8 := if 1 ≤ s ∧ s ≤ 8 then lowB n s.toNat else []
def highI (n : Nat) (s : Int) : List UInt8 := (lowI n s).reverse
theorem lowI_in (n s : Nat) (h1 : 1 ≤ s) (h2 : s ≤ 8) : lowI n s = lowB n s := by
  unfold lowI
  rw [if_pos ⟨by omega, by omega⟩, Int.toNat_natCast]
theorem lowI_out (n : Nat) (s : Int) (h : s < 1 ∨ 8 < s) : lowI n s = [] := by
  unfold lowI
  rw [if_neg (by omega)]
theorem lowI_length (n : Nat) (s : Int) : (lowI n s).length ≤ 8 := by
  unfold lowI
  split
  · rw [lowB_length]; omega
  · simp

/-- The number of bytes, the lowest one first. -/
def ofLowB : List UInt8 → Nat
  | [] => 0
  | b :: l => b.toNat + 256 * ofLowB l
/-- The number of bytes, the lowest one last. -/
def ofHighB (l : List UInt8) : Nat := ofLowB l.reverse

theorem ofLowB_lt (l : List UInt8) : ofLowB l < 256 ^ l.length := by
  induction l with
  | nil => simp [ofLowB]
  | cons b l ih =>
    have := b.toNat_lt
    simp only [ofLowB, List.length_cons, Nat.pow_succ]
    omega
theorem ofLowB_append (a b : List UInt8) : ofLowB (a ++ b) = ofLowB a + 256 ^ a.length * ofLowB b := by
  induction a with
  | nil => simp [ofLowB]
  | cons x a ih =>
    simp only [List.cons_append, ofLowB, ih, List.length_cons, Nat.pow_succ]
    rw [Nat.mul_add, ← Nat.mul_assoc, Nat.mul_comm 256 (256 ^ a.length), Nat.add_assoc]
theorem ofHighB_snoc (l : List UInt8) (b : UInt8) : ofHighB (l ++ [b]) = ofHighB l * 256 + b.toNat := by
  simp [ofHighB, ofLowB]
  omega
theorem ofHighB_nil : ofHighB [] = 0 := rfl
theorem ofHighB_lt (l : List UInt8) : ofHighB l < 256 ^ l.length := by
  have := ofLowB_lt l.reverse
  rwa [List.length_reverse] at this
theorem ofLowB_snoc (l : List UInt8) (b : UInt8) : ofLowB (l ++ [b]) = ofLowB l + 256 ^ l.length * b.toNat := by
  simp [ofLowB_append, ofLowB]

theorem ofLowB_lowB (n s : Nat) : ofLowB (lowB n s) = n % 256 ^ s := by
  induction s generalizing n with
  | zero => simp [lowB, ofLowB, Nat.mod_one]
  | succ s ih =>
    rw [lowB_cons, ofLowB, ih, byteN_toNat, Nat.pow_succ, Nat.mul_comm (256 ^ s), Nat.mod_mul]
    simp

theorem pow256_le (k : Nat) (h : k ≤ 8) : 256 ^ k ≤ 18446744073709551616 := by
  have : (256 : Nat) ^ k ≤ 256 ^ 8 := Nat.pow_le_pow_right (by omega) h
  simpa using this
theorem ofLowB_u64 (l : List UInt8) (h : l.length ≤ 8) : ofLowB l < 18446744073709551616 :=
  Nat.lt_of_lt_of_le (ofLowB_lt l) (pow256_le _ h)
theorem ofHighB_u64 (l : List UInt8) (h : l.length ≤ 8) : ofHighB l < 18446744073709551616 :=
  Nat.lt_of_lt_of_le (ofHighB_lt l) (pow256_le _ h)

/-- Bytes mixed, as many as the shorter list has. -/
def xorB (a b : List UInt8) : List UInt8 := List.zipWith (· ^^^ ·) a b
theorem xorB_length (a b : List UInt8) : (xorB a b).length = min a.length b.length := by simp [xorB]
theorem xorB_get (a b : List UInt8) (k : Nat) (h : k < (xorB a b).length) (ha : k < a.length) (hb : k < b.length) : (xorB a b)[k] = a[k] ^^^ b[k] := by
  simp [xorB]

/-- The first k of l, and zeros behind them. -/
def partly (l : List UInt8) (k : Nat) : List UInt8 := l.take k ++ List.replicate (l.length - k) 0
theorem partly_length (l : List UInt8) (k : Nat) (h : k ≤ l.length) : (partly l k).length = l.length := by simp [partly]; omega
theorem partly_zero (l : List UInt8) : partly l 0 = List.replicate l.length 0 := by simp [partly]
theorem partly_all (l : List UInt8) : partly l l.length = l := by simp [partly]
theorem partly_step (l : List UInt8) (k : Nat) (h : k < l.length) : (partly l k).set k l[k] = partly l (k + 1) := by
  unfold partly
  rw [List.set_append_right _ _ (by simp; omega), List.take_succ_eq_append_getElem h, List.append_assoc]
  congr 1
  have e1 : k - (l.take k).length = 0 := by simp; omega
  have e2 : l.length - k = (l.length - (k + 1)) + 1 := by omega
  rw [e1, e2, List.replicate_succ]
  simp

/-- Zeros, and behind them the last k of l. -/
def partlyR (l : List UInt8) (k : Nat) : List UInt8 := List.replicate (l.length - k) 0 ++ l.drop (l.length - k)
theorem partlyR_zero (l : List UInt8) : partlyR l 0 = List.replicate l.length 0 := by simp [partlyR]
theorem partlyR_all (l : List UInt8) : partlyR l l.length = l := by simp [partlyR]
theorem partlyR_step (l : List UInt8) (k : Nat) (h : k < l.length) : (partlyR l k).set (l.length - 1 - k) (l[l.length - 1 - k]'(by omega)) = partlyR l (k + 1) := by
  unfold partlyR
  have e : l.length - k = (l.length - (k + 1)) + 1 := by omega
  rw [e, List.replicate_succ', List.append_assoc, List.set_append_right _ _ (by simp; omega)]
  congr 1
  have e1 : l.length - 1 - k - (List.replicate (l.length - (k + 1)) (0 : UInt8)).length = 0 := by simp; omega
  rw [e1]
  have e2 : l.length - (k + 1) = l.length - 1 - k := by omega
  rw [List.drop_eq_getElem_cons (i := l.length - (k + 1)) (by omega)]
  simp [e2]
end Go.Proofs.Ytmhhjdiilmgmoaa
end
section
namespace Go.Proofs.Ytmhhjdiilmgmoaa
open Go.RowKit
set_option linter.unusedVariables false

theorem fits_yes (w : World) (n : Int) (h1 : 1 ≤ n) (h2 : n ≤ 8) :
    Calls Try.prog 65 #[.int .i64 n] w fun e w' => e = .returned (.bool true) ∧ w = w' := by
  go_enter Try.func65, Try.ntmps65
  go_wp2
  go_ret
  exact ⟨rfl, rfl⟩

theorem fits_no (w : World) (n : Int) (h : n < 1 ∨ 8 < n) :
    Calls Try.prog 65 #[.int .i64 n] w fun e w' => e = .returned (.bool false) ∧ w = w' := by
  rcases h with h | h
  · have h1 : decide ((1 : Int) ≤ n) = false := by simp; omega
    go_enter Try.func65, Try.ntmps65
    go_wp2
    go_ret
    exact ⟨rfl, rfl⟩
  · have h0 : (1 : Int) ≤ n := by omega
    have h1 : decide (n ≤ (8 : Int)) = false := by simp; omega
    go_enter Try.func65, Try.ntmps65
    go_wp2
    go_ret
    exact ⟨rfl, rfl⟩

theorem byteN_int (n i : Nat) : (n : Int) / 2 ^ (8 * i) % 256 = ((byteN n i).toNat : Int) := by
  have h : (2 : Int) ^ (8 * i) = ((256 ^ i : Nat) : Int) := by
    rw [show (256 : Nat) = 2 ^ 8 from rfl, ← Nat.pow_mul]
    simp
  rw [byteN_toNat, h]
  omega

theorem byteAt_any (w : World) (n i : Nat) (hn : n < 18446744073709551616) (hi : i ≤ 7) :
    Calls Try.prog 66 #[.int .u64 (n : Int), .int .i64 (i : Int)] w fun e w' => e = .returned (.int .u8 ((byteN n i).toNat : Int)) ∧ w = w' := by
  go_enter Try.func66, Try.ntmps66
  go_wp2
  go_ret
  exact ⟨ret_int (byteN_int n i), rfl⟩



theorem Try.infoB : (Try.prog.info? 5).map (fun i => (i.zero, i.size, i.bytes)) = some (some (.int .u8 0), 1, 1) := by kernel_rfl

end Go.Proofs.Ytmhhjdiilmgmoaa
end
section
namespace Go.Proofs.Ytmhhjdiilmgmoaa
open Go.RowKit
set_option linter.unusedVariables false
set_option maxRecDepth 20000



set_option maxHeartbeats 400000 in
theorem High_in (w : World) (n s : Nat) (hn : n < 18446744073709551616) (hs1 : 1 ≤ s) (hs2 : s ≤ 8) :
    Calls Try.prog 54 #[.int .u64 (n : Int), .int .i64 (s : Int)] w (RetBs w (lowB n s).reverse) := by
  obtain ⟨i0, hi, hz0, hz1, hz2⟩ := info_parts Try.infoB
  have hlen : (lowB n s).reverse.length = s := by rw [List.length_reverse, lowB_length]
  have HL := Lib.hid hlen
  clear hlen
  go_enter Try.func54, Try.ntmps54
  go_wp2_with (first
    | (go_at_call 65; refine (fits_yes _ _ (by omega) (by omega)).mono ?_; rintro e w' ⟨rfl, rfl⟩)
    | (refine wpList_make_full _ rfl (.tmp 10) (.tmp 10) 25 rfl w.heap.size 5 i0 (.int .u8 0) 1 Try.underlying25 hi hz0 hz1 .i64 .i64 _ _ s rfl rfl rfl rfl (by rw [hz2]; omega) (by unfold maxLen; omega) (Nat.le_refl _) ?_; intro w1 hown hgrow))
  rw [made_zeros] at hown
  have hown0 : w1.ownsRow w.heap.size 5 1 (.slice (some ⟨w.heap.size, 0, none⟩) s s) s (cellsB (partlyR (lowB n s).reverse 0)) := by
    rw [partlyR_zero, HL.out]; exact hown
  have hbel : Below w.heap.size w w1 := (Below.refl _ _).grown hgrow (Nat.le_refl _) (fun k h => by cases h)
  clear hown hgrow
  go_loopw [13] (fun i wr => ∃ k : Nat, k ≤ s ∧ i = .int .i64 k ∧ wr.ownsRow w.heap.size 5 1 (.slice (some ⟨w.heap.size, 0, none⟩) s s) s (cellsB (partlyR (lowB n s).reverse k)) ∧ Below w.heap.size w wr) (fun i _ => s - (intOf i).toNat)
  case atStart => exact ⟨0, Nat.zero_le _, rfl, hown0, hbel⟩
  case round =>
    obtain ⟨k, hk, rfl, hown, hb⟩ := hrel
    clear hown0 hbel
    by_cases hlt : k < s
    · obtain ⟨old, hcell⟩ := own_some hown (s - 1 - k) (by omega)
      have hfz := hown.frozenAt (s - 1 - k)
      have hput := own_put hown (s - 1 - k) (byteN n k)
      have hstep := partlyR_step (lowB n s).reverse k (by rw [HL.out]; omega)
      have hget : (lowB n s).reverse[(lowB n s).reverse.length - 1 - k]'(by rw [HL.out]; omega) = byteN n k := by
        rw [List.getElem_reverse]
        have e : (lowB n s).length - 1 - ((lowB n s).reverse.length - 1 - k) = k := by rw [HL.out, lowB_length]; omega
        simp only [e]
        simp [lowB]
      rw [hget, HL.out] at hstep
      rw [hstep] at hput
      have HP := Lib.hid hput
      have HG := Lib.hid hown
      have HB := Lib.hid hb
      clear hput hown hget hb hstep
      go_wp2_with (go_at_call 66; refine (byteAt_any _ n k hn (by omega)).mono ?_; rintro e w' ⟨rfl, rfl⟩)
      go_roundw
      case rel => exact ⟨k + 1, by omega, by go_num, HP.out, HB.out.setCell (by simp) _⟩
      case measure => simp [intOf]; omega
    · have hks : k = s := by omega
      subst hks
      have hown2 : wr.ownsRow w.heap.size 5 1 (.slice (some ⟨w.heap.size, 0, none⟩) k k) k (cellsB (lowB n k).reverse) := by
        have := partlyR_all (lowB n k).reverse; rw [HL.out] at this; rwa [this] at hown
      have HO := Lib.hid hown2
      have HB := Lib.hid hb
      clear hown2 hown hb
      go_wp2
      go_ret
      exact ⟨_, rfl, Bs.of_own HO.out, HB.out⟩

theorem High_out (w : World) (n : Nat) (s : Int) (h : s < 1 ∨ 8 < s) :
    Calls Try.prog 54 #[.int .u64 (n : Int), .int .i64 s] w (RetBs w []) := by
  go_enter Try.func54, Try.ntmps54
  go_wp2_with (go_at_call 65; refine (fits_no _ _ h).mono ?_; rintro e w' ⟨rfl, rfl⟩)
  go_ret
  exact ⟨_, rfl, Bs.nil _, Below.refl _ _⟩

theorem High_any (w : World) (n : Nat) (hn : n < 18446744073709551616) (s : Int) :
    Calls Try.prog 54 #[.int .u64 (n : Int), .int .i64 s] w (RetBs w (highI n s)) := by
  unfold highI
  by_cases h : s < 1 ∨ 8 < s
  · rw [lowI_out n s h]
    exact High_out w n s h
  · obtain ⟨t, rfl⟩ := Int.eq_ofNat_of_zero_le (a := s) (by omega)
    rw [lowI_in n t (by omega) (by omega)]
    exact High_in w n t hn (by omega) (by omega)

set_option maxHeartbeats 400000 in
theorem refLow_any (w : World) (n : Nat) (hn : n < 18446744073709551616) (s : Int) (hs : -9223372036854775808 ≤ s ∧ s ≤ 9223372036854775807) :
    Calls Try.prog 64 #[.int .u64 (n : Int), .int .i64 s] w (RetBs w (lowI n s)) := by
  obtain ⟨i0, hi, hz0, hz1, hz2⟩ := info_parts Try.infoB
  by_cases h8 : 8 < s
  · rw [lowI_out n s (by omega)]
    go_enter Try.func64, Try.ntmps64
    go_wp2
    go_ret
    exact ⟨_, rfl, Bs.nil _, Below.refl _ _⟩
  · have hlo : lowI n s = lowB n s.toNat := by
      by_cases h : s < 1
      · rw [lowI_out n s (by omega), show s.toNat = 0 by omega, lowB_zero]
      · unfold lowI; rw [if_pos ⟨by omega, by omega⟩]
    rw [hlo]
    clear hlo
    go_enter Try.func64, Try.ntmps64
    go_wp2
    go_loopw [0, 5, 6] (fun m v i wr => ∃ k q : Nat, k ≤ s.toNat ∧ q = n / 256 ^ k ∧ m = .int .u64 (q : Int) ∧ i = .int .i64 k ∧ OwnB wr w.heap.size 5 v (lowB n k) ∧ Below w.heap.size w wr) (fun _ _ i _ => s.toNat - (intOf i).toNat)
    case atStart => exact ⟨0, n, Nat.zero_le _, by simp, rfl, rfl, OwnB.nil _ _ _, Below.refl _ _⟩
    case round =>
      obtain ⟨k, q, hk, hq, rfl, rfl, hown, hb⟩ := hrel
      have hqn : q < 18446744073709551616 := by rw [hq]; exact Nat.lt_of_le_of_lt (Nat.div_le_self _ _) hn
      have hbi : (q : Int) % 256 = ((byteN n k).toNat : Int) := by rw [byteN_toNat, hq]; omega
      have hqd : q / 256 = n / 256 ^ (k + 1) := by rw [hq, Nat.div_div_eq_div_mul, Nat.pow_succ]
      have HQ := Lib.hid hqd
      have HB := Lib.hid hb
      have HI := Lib.hid hbi
      have HO := Lib.hid hown
      have hsz := hb.size
      clear hq hb hbi hqd hown
      by_cases hlt : (k : Int) < s
      · go_wp2_with (at_builtin; refine wpList_appB _ rfl (.tmp 15) (.tmp 19) 25 rfl w 5 Try.infoB Try.underlying25 _ _ _ [byteN n k] rfl rfl (HO.out.alloc _) (Bs.lit1 _ _ _ _ HI.out) (by rw [lowB_length]; simp; omega) (HB.out.alloc hsz _) ?_; intro v1 w1 hown1 hb1)
        go_roundw
        case rel => exact ⟨k + 1, q / 256, by omega, HQ.out, by go_num, by go_num, by rw [lowB_succ]; exact hown1, hb1⟩
        case measure => simp [intOf]; omega
      · have hks : k = s.toNat := by omega
        subst hks
        go_wp2
        go_ret
        exact ⟨_, rfl, HO.out.bs, HB.out⟩

set_option maxHeartbeats 400000 in
theorem refHigh_any (w : World) (n : Nat) (hn : n < 18446744073709551616) (s : Int) (hs : -9223372036854775808 ≤ s ∧ s ≤ 9223372036854775807) :
    Calls Try.prog 49 #[.int .u64 (n : Int), .int .i64 s] w (RetBs w (highI n s)) := by
  unfold highI
  have hlen := lowI_length n s
  have hc := fun w => refLow_any w n hn s hs
  generalize lowI n s = l at hlen hc ⊢
  have HC := Lib.hid hc
  clear hc
  go_enter Try.func49, Try.ntmps49
  go_wp2_with (go_at_call 64; refine (HC.out _).mono ?_; rintro e w1 ⟨_, rfl, ⟨A, c, rfl, h1, h2, h3⟩, hb0⟩)
  have HB0 := Lib.hid hb0
  unfold maxLen at h2
  clear hb0
  go_loopw [6, 7] (fun v i wr => ∃ k : Nat, k ≤ l.length ∧ i = .int .i64 ((l.length : Int) - 1 - k) ∧ OwnB wr w1.heap.size 5 v (l.reverse.take k) ∧ Below w1.heap.size w1 wr) (fun _ i _ => (intOf i + 1).toNat)
  case atStart => exact ⟨0, Nat.zero_le _, by simp, OwnB.nil _ _ _, Below.refl _ _⟩
  case round =>
    obtain ⟨k, hk, rfl, hown, hb⟩ := hrel
    have HO := Lib.hid hown
    have HB := Lib.hid hb
    have hsz := hb.size
    clear hown hb
    by_cases hlt : k < l.length
    · obtain ⟨b0, o0, rfl, hc⟩ := h3 (by omega)
      have hcell : wr.cell? ⟨b0, o0 + (l.length - 1 - k), none⟩ = some (.int .u8 ((l[l.length - 1 - k]'(by omega)).toNat : Int)) :=
        (HB.out.cell (p := ⟨b0, o0 + (l.length - 1 - k), none⟩) (World.block_lt_of_cell? w1 _ (hc (l.length - 1 - k) (by omega)))).trans (hc (l.length - 1 - k) (by omega))
      have htk : l.reverse.take (k + 1) = l.reverse.take k ++ [l[l.length - 1 - k]'(by omega)] := by
        rw [List.take_succ_eq_append_getElem (by simpa using hlt), List.getElem_reverse]
      have HT := Lib.hid htk
      clear htk hc h3
      go_wp2_with (at_builtin; refine wpList_appB _ rfl (.tmp 18) (.tmp 23) 25 rfl w1 5 Try.infoB Try.underlying25 _ _ _ [l[l.length - 1 - k]'(by omega)] rfl rfl (HO.out.alloc _) (Bs.lit1 _ _ _ _ rfl) (by simp; omega) (HB.out.alloc hsz _) ?_; intro v2 w2 hown2 hb2)
      go_roundw
      case rel => exact ⟨k + 1, by omega, by go_num, by rw [HT.out]; exact hown2, hb2⟩
      case measure => simp [intOf]; omega
    · have hks : k = l.length := by omega
      subst hks
      have HO2 : Hid (OwnB wr w1.heap.size 5 u6 l.reverse) := by
        have := HO.out; rwa [List.take_of_length_le (by simp)] at this
      go_wp2
      go_ret
      exact ⟨_, rfl, HO2.out.bs, below_size HB0.out HB.out⟩
end Go.Proofs.Ytmhhjdiilmgmoaa
end
section
namespace Go.Proofs.Ytmhhjdiilmgmoaa
open Go.RowKit
set_option linter.unusedVariables false
set_option maxRecDepth 20000

theorem take8 (l : List UInt8) (k : Nat) (hk : k ≤ l.length) (h8 : k ≤ 8) (h : ¬ (k < 8 ∧ k < l.length)) : l.take 8 = l.take k := by
  by_cases h1 : k = 8
  · rw [h1]
  · rw [List.take_of_length_le (by omega), List.take_of_length_le (by omega)]

theorem mul256_lt (k b : Nat) (hk : k < 8) (hb : b < 256) : 256 ^ k * b < 18446744073709551616 := by
  have h1 : 256 ^ k * b < 256 ^ k * 256 := Nat.mul_lt_mul_of_pos_left hb (Nat.pow_pos (by omega))
  have h2 := pow256_le (k + 1) (by omega)
  rw [Nat.pow_succ] at h2
  omega

theorem or_low (k q b : Nat) (hk : k < 8) (hq : q < 256 ^ k) (hb : b < 256) :
    bits .or .u64 (q : Int) (IntKind.u64.wrap ((b : Int) * 2 ^ (8 * k))) = ((q + 256 ^ k * b : Nat) : Int) := by
  have hv : ((b : Int) * 2 ^ (8 * k)) = ((256 ^ k * b : Nat) : Int) := by
    have h : (2 : Int) ^ (8 * k) = ((256 ^ k : Nat) : Int) := by
      rw [show (256 : Nat) = 2 ^ 8 from rfl, ← Nat.pow_mul]
      simp
    rw [h, Int.natCast_mul, Int.mul_comm]
  have hlt := mul256_lt k b hk hb
  have hw : IntKind.u64.wrap ((256 ^ k * b : Nat) : Int) = ((256 ^ k * b : Nat) : Int) := by
    rw [IntKind.wrap_u64]; omega
  have hq2 : q < 18446744073709551616 := Nat.lt_of_lt_of_le hq (pow256_le k (by omega))
  rw [hv, hw, u64_or_nat _ _ hq2 hlt]
  have e : 256 ^ k = 2 ^ (8 * k) := by rw [show (256 : Nat) = 2 ^ 8 from rfl, ← Nat.pow_mul]
  have := Nat.two_pow_add_eq_or_of_lt (b := q) (i := 8 * k) (by rw [← e]; exact hq) b
  rw [Nat.or_comm, e, ← this, Nat.add_comm]

theorem or_high (k q b : Nat) (hk : k < 8) (hq : q < 256 ^ k) (hb : b < 256) :
    bits .or .u64 (IntKind.u64.wrap ((q : Int) * 256)) (b : Int) = ((q * 256 + b : Nat) : Int) := by
  have h2 := pow256_le (k + 1) (by omega)
  rw [Nat.pow_succ] at h2
  have hw : IntKind.u64.wrap ((q : Int) * 256) = ((2 ^ 8 * q : Nat) : Int) := by
    rw [IntKind.wrap_u64]; omega
  have := Nat.two_pow_add_eq_or_of_lt (b := b) (i := 8) hb q
  rw [hw, u64_or_nat _ _ (by omega) (by omega), ← this]
  omega


set_option maxHeartbeats 400000 in
theorem OfHigh_any (w : World) (v : Value) (l : List UInt8) (h : Bs w v l) :
    Calls Try.prog 57 #[v] w fun e w' => e = .returned (.int .u64 (ofHighB (l.take 8) : Int)) ∧ w = w' := by
  obtain ⟨A, c, rfl, h1, h2, h3⟩ := h
  unfold maxLen at h2
  by_cases h8 : 8 < l.length
  all_goals
    go_enter Try.func57, Try.ntmps57
    go_wp2
    go_loop [3, 8] (fun n i => ∃ k q : Nat, k ≤ 8 ∧ k ≤ l.length ∧ i = .int .i64 k ∧ q = ofHighB (l.take k) ∧ n = .int .u64 (q : Int)) (fun _ i => 8 - (intOf i).toNat)
    case atStart => exact ⟨0, 0, by omega, Nat.zero_le _, rfl, by simp [ofHighB, ofLowB], rfl⟩
    case round =>
      obtain ⟨k, q, hk, hk2, rfl, hq, rfl⟩ := hrel
      have hql : q < 256 ^ k := by
        have := ofHighB_lt (l.take k); rw [← hq, List.length_take_of_le (by omega)] at this; exact this
      have hq64 : q < 18446744073709551616 := Nat.lt_of_lt_of_le hql (pow256_le k (by omega))
      have HQ := Lib.hid hq
      have HQL := Lib.hid hql
      clear hq hql
      by_cases hlt : k < 8 ∧ k < l.length
      · obtain ⟨hlt1, hlt2⟩ := hlt
        obtain ⟨b0, o0, rfl, hc⟩ := h3 (by omega)
        have hcell := hc k (by omega)
        have hb := l[k].toNat_lt
        clear hc
        go_wp2
        go_round
        case rel => 
          refine ⟨k + 1, ofHighB (l.take (k + 1)), by omega, by omega, by go_num, rfl, ?_⟩
          rw [or_high k q _ hlt1 HQL.out hb, List.take_succ_eq_append_getElem hlt2, ofHighB_snoc, HQ.out]
        case measure => simp [intOf]; omega
      · have hfin := take8 l k hk2 hk hlt
        have HF := Lib.hid hfin
        clear hfin
        go_wp2
        go_ret
        exact ⟨ret_int (by rw [HF.out, HQ.out]), rfl⟩

set_option maxHeartbeats 400000 in
theorem refOfHigh_any (w : World) (v : Value) (l : List UInt8) (h : Bs w v l) :
    Calls Try.prog 48 #[v] w fun e w' => e = .returned (.int .u64 (ofHighB (l.take 8) : Int)) ∧ w = w' := by
  obtain ⟨A, c, rfl, h1, h2, h3⟩ := h
  unfold maxLen at h2
  go_enter Try.func48, Try.ntmps48
  go_wp2
  go_loop [3, 4] (fun n i => ∃ k q : Nat, k ≤ 8 ∧ k ≤ l.length ∧ i = .int .i64 k ∧ q = ofHighB (l.take k) ∧ n = .int .u64 (q : Int)) (fun _ i => 8 - (intOf i).toNat)
  case atStart => exact ⟨0, 0, by omega, Nat.zero_le _, rfl, by simp [ofHighB, ofLowB], rfl⟩
  case round =>
    obtain ⟨k, q, hk, hk2, rfl, hq, rfl⟩ := hrel
    have hql : q < 256 ^ k := by
      have := ofHighB_lt (l.take k); rw [← hq, List.length_take_of_le (by omega)] at this; exact this
    have HQ := Lib.hid hq
    by_cases hlt : k < 8 ∧ k < l.length
    · obtain ⟨hlt1, hlt2⟩ := hlt
      obtain ⟨b0, o0, rfl, hc⟩ := h3 (by omega)
      have hcell := hc k (by omega)
      have hb := l[k].toNat_lt
      have hbd : q * 256 + l[k].toNat < 18446744073709551616 := by
        have := pow256_le (k + 1) (by omega)
        rw [Nat.pow_succ] at this
        omega
      clear hc hq hql
      go_wp2
      go_round
      case rel => 
        refine ⟨k + 1, ofHighB (l.take (k + 1)), by omega, by omega, by go_num, rfl, ?_⟩
        rw [List.take_succ_eq_append_getElem hlt2, ofHighB_snoc, ← HQ.out]
        go_num
      case measure => simp [intOf]; omega
    · have hfin := take8 l k hk2 hk hlt
      have HF := Lib.hid hfin
      clear hfin hq hql
      by_cases hk8 : k < l.length
      · have hd : decide ((k : Int) < 8) = false := by simp; omega
        go_wp2
        go_ret
        exact ⟨ret_int (by rw [HF.out, HQ.out]), rfl⟩
      · have hd : decide (k < l.length) = false := by simp; omega
        go_wp2
        go_ret
        exact ⟨ret_int (by rw [HF.out, HQ.out]), rfl⟩

end Go.Proofs.Ytmhhjdiilmgmoaa
end
section
namespace Go.Proofs.Ytmhhjdiilmgmoaa
open Go.RowKit

/-- Block g is just the cells cs, none of them frozen. -/
def RowAt (w : World) (g : Nat) (t : TypeId) (cs : Array Value) : Prop := w.heap[g]? = some (.cells cs t (0, 0))

section
variable {w w' : World} {g : Nat} {t : TypeId} {cs : Array Value}
theorem RowAt.lt (h : RowAt w g t cs) : g < w.heap.size := by
  rcases Nat.lt_or_ge g w.heap.size with hlt | hge
  · exact hlt
  · unfold RowAt at h; rw [Array.getElem?_eq_none hge] at h; cases h
theorem RowAt.cell (h : RowAt w g t cs) (i : Nat) : w.cell? ⟨g, i, none⟩ = cs[i]? := cell_of_row w g i cs t (0, 0) h
theorem RowAt.frozen (h : RowAt w g t cs) (i : Nat) : w.frozen? ⟨g, i, none⟩ = false := frozen_of_row w g i cs t h
theorem RowAt.drew (h : RowAt w g t cs) : RowAt w.drew g t cs := h
theorem RowAt.drewN (h : RowAt w g t cs) (n : Nat) : RowAt (w.drewN n) g t cs := h
theorem RowAt.alloc (h : RowAt w g t cs) (o : Obj) : RowAt (w.alloc o) g t cs := (Below.heap_alloc w o g h.lt).trans h
theorem RowAt.below {B : Nat} (h : RowAt w g t cs) (hb : Below B w w') (hg : g < B) : RowAt w' g t cs := (hb.block g hg).trans h
theorem RowAt.kept (h : RowAt w g t cs) (hb : Below w.heap.size w w') : RowAt w' g t cs := h.below hb h.lt
theorem RowAt.grown {row : Option Nat} (h : RowAt w g t cs) (hb : w.grownBy w' row) (hg : some g ≠ row) : RowAt w' g t cs := (hb.block g h.lt hg).trans h
theorem RowAt.put (h : RowAt w g t cs) (i : Nat) (u : Value) : RowAt (w.setCell ⟨g, i, none⟩ u) g t (cs.setIfInBounds i u) := heap_setCell_same w g i cs t u h
theorem RowAt.far (h : RowAt w g t cs) {p : Addr} (hp : g ≠ p.block) (u : Value) : RowAt (w.setCell p u) g t cs := (heap_setCell_other w p g u hp).trans h
theorem RowAt.new (w : World) (t : TypeId) (cs : Array Value) : RowAt (w.alloc (.cells cs t)) w.heap.size t cs := heap_alloc_new w _
end

/-- A new block has been laid, and nothing else has turned. -/
structure NewRow (w : World) (g : Nat) (t : TypeId) (cs : Array Value) (w' : World) : Prop where
  row : RowAt w' g t cs
  spot : g = w.heap.size
  below : Below w.heap.size w w'
  size : w'.heap.size = w.heap.size + 1
theorem NewRow.mk_ (w : World) (t : TypeId) (cs : Array Value) : NewRow w w.heap.size t cs (w.alloc (.cells cs t)) :=
  ⟨RowAt.new w t cs, rfl, (Below.refl _ _).alloc (Nat.le_refl _) _, by simp⟩

/-- One row has been written as a whole, and nothing else has turned. -/
structure PutRow (w : World) (g : Nat) (t : TypeId) (cs : Array Value) (w' : World) : Prop where
  row : RowAt w' g t cs
  grown : w.grownBy w' (some g)
  size : w'.heap.size = w.heap.size
theorem PutRow.below {w w' w0 : World} {g : Nat} {t : TypeId} {cs : Array Value} {B : Nat} (h : PutRow w g t cs w') (hb : Below B w0 w) (hB : B ≤ w.heap.size) (hg : B ≤ g) : Below B w0 w' :=
  hb.grown h.grown hB (fun k e => by injection e with e; omega)

section
variable {P : Program} {w : World}

theorem wp_alloc_row {o : Oper} {a : Act} {K : Act → World → Prop} {Q : Exit → Act → World → Prop} (ty : TypeId) (ho : o.op = .alloc ty)
    (z : Array Value) (hz : (P.info? ty).map (·.zero) = some (some (.agg z)))
    (h : ∀ g w', NewRow w g ty z w' → K (a.put o.dst (.pointer (some ⟨g, 0, none⟩))) w') : o.wp P a w K Q := by
  obtain ⟨i, hi, hz⟩ := Option.map_eq_some_iff.1 hz
  unfold Oper.wp execOp
  simp [ho, Instr.alloc, zeroValue, typeInfo, hi, hz, newVar, newRow, newObj, Value.cells]
  exact h _ _ (NewRow.mk_ w ty z)
theorem wpList_alloc_row {ops : Array Oper} {rest : List Oper} {o : Oper} {a : Act} {Q : Exit → Act → World → Prop} (hgd : o.guard = none) (ty : TypeId) (ho : o.op = .alloc ty)
    (z : Array Value) (hz : (P.info? ty).map (·.zero) = some (some (.agg z)))
    (h : ∀ g w', NewRow w g ty z w' → wpList P ops Q rest (a.put o.dst (.pointer (some ⟨g, 0, none⟩))) w') : wpList P ops Q (o :: rest) a w :=
  wpList_plain hgd fun _ hK => wp_alloc_row ty ho z hz fun g w' hn => hK _ _ (h g w' hn)

theorem wp_box_row {o : Oper} {a : Act} {K : Act → World → Prop} {Q : Exit → Act → World → Prop} (ty : TypeId) (x : Operand) (ho : o.op = .box ty x)
    (cs : Array Value) (hx : a.eval x = .agg cs)
    (h : ∀ g w', NewRow w g ty cs w' → K (a.put o.dst (.pointer (some ⟨g, 0, none⟩))) w') : o.wp P a w K Q := by
  unfold Oper.wp execOp
  simp [ho, Instr.box, hx, newVar, newRow, newObj, Value.cells]
  exact h _ _ (NewRow.mk_ w ty cs)
theorem wpList_box_row {ops : Array Oper} {rest : List Oper} {o : Oper} {a : Act} {Q : Exit → Act → World → Prop} (hgd : o.guard = none) (ty : TypeId) (x : Operand) (ho : o.op = .box ty x)
    (cs : Array Value) (hx : a.eval x = .agg cs)
    (h : ∀ g w', NewRow w g ty cs w' → wpList P ops Q rest (a.put o.dst (.pointer (some ⟨g, 0, none⟩))) w') : wpList P ops Q (o :: rest) a w :=
  wpList_plain hgd fun _ hK => wp_box_row ty x ho cs hx fun g w' hn => hK _ _ (h g w' hn)

theorem setRow_put {g : Nat} {t : TypeId} {old cs : Array Value} (hg : RowAt w g t old) : PutRow w g t cs (w.setRow g cs) :=
  ⟨setRow_heap w g _ cs t _ hg, ⟨rfl, rfl, rfl, by simp, fun k _ hne => setRow_other w g k cs (fun e => hne (by rw [e]))⟩, by simp⟩

theorem wp_store_row {o : Oper} {a : Act} {K : Act → World → Prop} {Q : Exit → Act → World → Prop} (ty : TypeId) (x y : Operand) (ho : o.op = .store ty x y)
    (g : Nat) (t : TypeId) (old cs : Array Value) (hx : a.eval x = .pointer (some ⟨g, 0, none⟩)) (hy : a.eval y = .agg cs) (hg : RowAt w g t old) (hs : old.size = cs.size) (hi : (P.info? ty).map (·.size) = some cs.size)
    (h1 : ∀ u ∈ cs.toList, u.oneCell' = true)
    (h : ∀ w', PutRow w g t cs w' → K (a.put o.dst undef) w') : o.wp P a w K Q := by
  obtain ⟨i, hi, hz⟩ := Option.map_eq_some_iff.1 hi
  have hrun := run_storeCells_at (P := P) g 0 t cs.toList 0 old w hg (by simp [hs]) h1
  have he : (old.toList.take (0 + 0) ++ cs.toList ++ old.toList.drop (0 + 0 + cs.toList.length)).toArray = cs := by
    rw [List.drop_eq_nil_of_le (by simp [hs])]
    simp
  rw [he] at hrun
  unfold Oper.wp execOp
  simp [ho, Instr.storeAt, Instr.sureAddr, storeVar, hx, hy, sizeOf, typeInfo, hi, hz, Value.cells, hrun]
  exact h _ (setRow_put hg)
theorem wpList_store_row {ops : Array Oper} {rest : List Oper} {o : Oper} {a : Act} {Q : Exit → Act → World → Prop} (hgd : o.guard = none) (ty : TypeId) (x y : Operand) (ho : o.op = .store ty x y)
    (g : Nat) (t : TypeId) (old cs : Array Value) (hx : a.eval x = .pointer (some ⟨g, 0, none⟩)) (hy : a.eval y = .agg cs) (hg : RowAt w g t old) (hs : old.size = cs.size) (hi : (P.info? ty).map (·.size) = some cs.size)
    (h1 : ∀ u ∈ cs.toList, u.oneCell' = true)
    (h : ∀ w', PutRow w g t cs w' → wpList P ops Q rest (a.put o.dst undef) w') : wpList P ops Q (o :: rest) a w :=
  wpList_plain hgd fun _ hK => wp_store_row ty x y ho g t old cs hx hy hg hs hi h1 fun w' hn => hK _ _ (h w' hn)

/-- A guarded operation whose guard says yes. -/
theorem wpList_wanted {ops : Array Oper} {rest : List Oper} {o : Oper} {a : Act} {Q : Exit → Act → World → Prop} (hw : Region.wanted o (yielded ops a.tmps) = true)
    (h : ∀ K : Act → World → Prop, (∀ a w, wpList P ops Q rest a w → K a w) → o.wp P a w K Q) : wpList P ops Q (o :: rest) a w :=
  wpList_step fun K hK => by rw [if_pos hw]; exact h K hK
theorem wpListG_load_row {ops : Array Oper} {rest : List Oper} {o : Oper} {a : Act} {Q : Exit → Act → World → Prop} (ty : TypeId) (x : Operand) (ho : o.op = .load ty x) (hw : Region.wanted o (yielded ops a.tmps) = true)
    (g : Nat) (hx : a.eval x = .pointer (some ⟨g, 0, none⟩)) (t : TypeId) (cs : Array Value) (d : TypeDesc) (hg : RowAt w g t cs)
    (hu : P.underlying ty = some d) (hd : (match d with | .struct _ | .array _ _ => true | _ => false) = true) (hi : (P.info? ty).map (·.size) = some cs.size)
    (h : wpList P ops Q rest (a.put o.dst (.agg cs)) w) : wpList P ops Q (o :: rest) a w :=
  wpList_wanted hw fun _ hK => wp_load_row ty x ho g hx t cs (0, 0) d hg hu hd hi (hK _ _ h)

theorem ret_row_tmp {fn : Func} {p u : Tmp} {ty : TypeId} (h : fn.results = #[.cell p ty, .tmp u]) (tmps : Array Value) (g : Nat) (t : TypeId) (cs : Array Value) (d : TypeDesc)
    (hp : tmps.getD p undef = .pointer (some ⟨g, 0, none⟩)) (hg : RowAt w g t cs)
    (hu : P.underlying ty = some d) (hd : (match d with | .struct _ | .array _ _ => true | _ => false) = true) (hi : (P.info? ty).map (·.size) = some cs.size) :
    (results fn tmps).run P w = .ok (.tuple #[.agg cs, tmps.getD u undef]) w := by
  rw [results_cell_tmp h, hp]
  simp [asAddr, run_loadVar_row w g t ty cs (0, 0) d hg hu hd hi]
end
end Go.Proofs.Ytmhhjdiilmgmoaa
end
section
namespace Go.Proofs.Ytmhhjdiilmgmoaa
open Go.RowKit
set_option linter.unusedVariables false
set_option maxRecDepth 20000

/-- A key, as a value; and the one of zeros. -/
def keyC (l : List UInt8) : Array Value := (cellsB l).toArray
def keyV (l : List UInt8) : Value := .agg (keyC l)
def zeroKey : List UInt8 := List.replicate 32 0
theorem zeroKey_length : zeroKey.length = 32 := by simp [zeroKey]
theorem keyC_size (l : List UInt8) : (keyC l).size = l.length := by simp [keyC, cellsB_length]
theorem keyC_same {a b : List UInt8} (ha : a.length = 32) (hb : b.length = 32) : (keyC a).size = (keyC b).size := by rw [keyC_size, keyC_size, ha, hb]
theorem keyC_one (l : List UInt8) : ∀ u ∈ (keyC l).toList, u.oneCell' = true := by
  intro u hu
  exact cellsB_one l u (by simpa [keyC] using hu)
theorem Try.zeroK : (Try.prog.info? 24).map (·.zero) = some (some (.agg (keyC zeroKey))) := by kernel_rfl
theorem Try.sizeK : (Try.prog.info? 24).map (·.size) = some 32 := by kernel_rfl
theorem Try.sizeKey (l : List UInt8) (h : l.length = 32) : (Try.prog.info? 24).map (·.size) = some (keyC l).size := by rw [keyC_size, h]; exact Try.sizeK

theorem Try.sizeB : (Try.prog.info? 5).map (·.size) = some 1 := by kernel_rfl
theorem cellsB_min {l : List UInt8} (h : l.length = 32) : (cellsB l).length = Nat.min l.length 32 := by rw [cellsB_length, h]; rfl
theorem copy_fit {l : List UInt8} (h : l.length = 32) : 0 + (cellsB l).length ≤ (cellsB zeroKey).length := by rw [cellsB_length, cellsB_length, h, zeroKey_length]; omega
theorem copied {w : World} {g : Nat} {t : TypeId} {l : List UInt8} (h : l.length = 32) (hr : w.heap[g]? = some (.cells (splice (cellsB zeroKey) 0 (cellsB l)).toArray t (0, 0))) : RowAt w g t (keyC l) := by
  have e : splice (cellsB zeroKey) 0 (cellsB l) = cellsB l := by
    unfold splice
    rw [List.drop_eq_nil_of_le (by rw [cellsB_length, cellsB_length, h, zeroKey_length]; omega)]
    simp
  rw [e] at hr
  exact hr
theorem copy_src {w w1 w2 : World} {A : Option Addr} {n c : Nat} {l : List UInt8} {g : Nat} (h : Bs w (.slice A n c) l) (h1 : Below w.heap.size w w1) (h2 : Below w1.heap.size w1 w2) :
    0 < (cellsB l).length → some (⟨g, 0, none⟩ : Addr) = some ⟨g, 0, none⟩ ∧ ∃ ad, A = some ad ∧ ∀ j v, (cellsB l)[j]? = some v → w2.cell? (ad.add j) = some v := by
  intro hp
  refine ⟨rfl, ?_⟩
  obtain ⟨A', c', hv, _, _, h3⟩ := (h.below h1).below h2
  injection hv with e1 e2 e3
  subst e1
  rw [cellsB_length] at hp
  obtain ⟨b, off, rfl, hc⟩ := h3 hp
  refine ⟨_, rfl, fun j u hu => ?_⟩
  have hj : j < l.length := by
    have := (List.getElem?_eq_some_iff.1 hu).1
    rwa [cellsB_length] at this
  have hadd : (⟨b, off, none⟩ : Addr).add j = ⟨b, off + j, none⟩ := by unfold Addr.add; split <;> simp_all
  rw [hadd, hc j hj, ← hu, cellsB_get l j hj]

theorem below_new {w w1 w2 w3 : World} {g1 g2 : Nat} {t1 t2 t3 : TypeId} {c1 c2 c3 : Array Value} (n1 : NewRow w g1 t1 c1 w1) (n2 : NewRow w1 g2 t2 c2 w2) (p3 : PutRow w2 g1 t3 c3 w3) : Below w.heap.size w w3 :=
  p3.below (below_size n1.below n2.below) (by have := n1.below.size; have := n2.below.size; omega) (by rw [n1.spot]; exact Nat.le_refl _)




end Go.Proofs.Ytmhhjdiilmgmoaa
end
section
namespace Go.Proofs.Ytmhhjdiilmgmoaa
open Go.RowKit
set_option linter.unusedVariables false

theorem keyC_put (l : List UInt8) (i : Nat) (b : UInt8) : (keyC l).setIfInBounds i (.int .u8 (b.toNat : Int)) = keyC (l.set i b) := by
  unfold keyC
  rw [← cellsB_set]
  simp
theorem keyC_cell {w : World} {g : Nat} {t : TypeId} {l : List UInt8} (h : RowAt w g t (keyC l)) (i : Nat) (hi : i < l.length) : w.cell? ⟨g, i, none⟩ = some (.int .u8 (l[i].toNat : Int)) := by
  rw [h.cell i]
  have := cellsB_get l i hi
  simpa [keyC] using this
theorem Try.buildK (w : World) : (Instr.build 24 #[]).run Try.prog w = .ok (keyV zeroKey) w := by kernel_rfl

set_option maxHeartbeats 1000000 in
theorem refToKey_full (w : World) (v : Value) (l : List UInt8) (h : Bs w v l) (hl : l.length = 32) :
    Calls Try.prog 63 #[v] w (RetV w (.tuple #[keyV l, .int .i64 0])) := by
  obtain ⟨A, c, rfl, h1, h2, h3⟩ := h
  unfold maxLen at h2
  have HL := Lib.hid hl
  have hl1 : l.length ≤ 32 := by omega
  have hl2 : 32 ≤ l.length := by omega
  clear hl
  have hd : decide ((l.length : Int) < 32) = false := by simp; omega
  have hd2 : decide ((32 : Int) < (l.length : Int)) = false := by simp; omega
  have hbk := Try.buildK
  go_enter Try.func63, Try.ntmps63
  go_wp2_with (first | ((with_reducible refine wpList_alloc_row (o := ⟨some 2, _, _, _, _, _⟩) rfl 24 rfl (keyC zeroKey) Try.zeroK ?_); intro g1 w1 n1) | ((with_reducible refine wpList_alloc_row (o := ⟨some 4, _, _, _, _, _⟩) rfl 24 rfl (keyC zeroKey) Try.zeroK ?_); intro g2 w2 n2) | ((with_reducible refine wpList_store_row rfl 24 (.tmp 4) (.tmp 6) rfl g2 24 (keyC zeroKey) (keyC zeroKey) (by with_unfolding_all rfl) (by with_unfolding_all rfl) n2.row (keyC_same zeroKey_length zeroKey_length) (Try.sizeKey _ zeroKey_length) (keyC_one _) ?_); intro w3 p3))
  have hb3 : Below w1.heap.size w1 w3 := p3.below n2.below n2.below.size (by rw [n2.spot]; exact Nat.le_refl _)
  have hr3 : RowAt w3 g2 24 (keyC (partly l 0)) := by rw [partly_zero, HL.out]; exact p3.row
  have hgg : w1.heap.size ≤ g2 := Nat.le_of_eq n2.spot.symm
  have HW1 := Lib.hid n1
  clear n2 p3 hbk
  go_loopw [5] (fun i wr => ∃ k : Nat, k ≤ l.length ∧ i = .int .i64 k ∧ RowAt wr g2 24 (keyC (partly l k)) ∧ Below w1.heap.size w1 wr) (fun i _ => l.length - (intOf i).toNat)
  case atStart => exact ⟨0, Nat.zero_le _, rfl, hr3, hb3⟩
  case round =>
    obtain ⟨k, hk, rfl, hr, hb⟩ := hrel
    clear hr3 hb3
    by_cases hlt : k < l.length
    · obtain ⟨b0, o0, rfl, hc⟩ := h3 (by omega)
      have hc0 : wr.cell? ⟨b0, o0 + k, none⟩ = some (.int .u8 (l[k].toNat : Int)) := by
        have e1 := World.block_lt_of_cell? w _ (hc k hlt)
        have e2 : b0 < w1.heap.size := Nat.lt_of_lt_of_le e1 n1.below.size
        rw [hb.cell (p := ⟨b0, o0 + k, none⟩) e2, n1.below.cell (p := ⟨b0, o0 + k, none⟩) e1, hc k hlt]
      have hpl : (partly l k).length = l.length := partly_length l k hk
      have hcell := keyC_cell hr k (by omega)
      have hfz := hr.frozen k
      have hput := hr.put k (.int .u8 (l[k].toNat : Int))
      rw [keyC_put, partly_step l k hlt] at hput
      generalize ((partly l k)[k]'(by omega)).toNat = old at hcell
      have HP := Lib.hid hput
      have HB := Lib.hid hb
      clear hput hr hb hc h3 hpl
      go_wp2
      go_roundw
      case rel => exact ⟨k + 1, by omega, by go_num, HP.out, HB.out.setCell hgg _⟩
      case measure => simp [intOf]; omega
    · have hks : k = l.length := by omega
      rw [hks, partly_all] at hr
      have HR := Lib.hid hr
      have HB := Lib.hid hb
      clear hks hr hb
      go_wp2_with (first | (with_reducible refine wpList_load_row rfl 24 (.tmp 4) rfl g2 (by with_unfolding_all rfl) 24 (keyC l) (0, 0) (.array 32 5) (by with_unfolding_all exact HR.out) Try.underlying24 rfl (Try.sizeKey _ HL.out) ?_) | ((with_reducible refine wpList_store_row rfl 24 (.tmp 2) (.tmp 25) rfl g1 24 (keyC zeroKey) (keyC l) (by with_unfolding_all rfl) (by with_unfolding_all rfl) (n1.row.kept HB.out) (keyC_same zeroKey_length HL.out) (Try.sizeKey _ HL.out) (keyC_one _) ?_); intro w4 p4))
      refine bodyPost_ret (ret_row_tmp rfl _ g1 24 (keyC l) (.array 32 5) rfl p4.row Try.underlying24 rfl (Try.sizeKey _ HL.out)) rfl ⟨rfl, ?_⟩
      exact p4.below (below_size n1.below HB.out) (by have := n1.below.size; have := HB.out.size; omega) (by rw [n1.spot]; exact Nat.le_refl _)

set_option maxHeartbeats 1000000 in
theorem refToKey_short (w : World) (v : Value) (l : List UInt8) (h : Bs w v l) (hl : l.length < 32) :
    Calls Try.prog 63 #[v] w (RetV w (.tuple #[keyV zeroKey, .int .i64 3])) := by
  obtain ⟨A, c, rfl, h1, h2, h3⟩ := h
  unfold maxLen at h2
  clear h3
  have hd : decide ((l.length : Int) < 32) = true := by simp; omega
  have hbk := Try.buildK
  go_enter Try.func63, Try.ntmps63
  go_wp2_with (first | ((with_reducible refine wpList_alloc_row (o := ⟨some 2, _, _, _, _, _⟩) rfl 24 rfl (keyC zeroKey) Try.zeroK ?_); intro g1 w1 n1) | ((with_reducible refine wpList_alloc_row (o := ⟨some 4, _, _, _, _, _⟩) rfl 24 rfl (keyC zeroKey) Try.zeroK ?_); intro g2 w2 n2) | ((with_reducible refine wpList_store_row rfl 24 (.tmp 4) (.tmp 6) rfl g2 24 (keyC zeroKey) (keyC zeroKey) (by with_unfolding_all rfl) (by with_unfolding_all rfl) n2.row (keyC_same zeroKey_length zeroKey_length) (Try.sizeKey _ zeroKey_length) (keyC_one _) ?_); intro w3 p3; have hb3 : Below w1.heap.size w1 w3 := p3.below n2.below n2.below.size (by rw [n2.spot]; exact Nat.le_refl _)) | (with_reducible refine wpList_load_row rfl 24 (.tmp 4) rfl g2 (by with_unfolding_all rfl) 24 (keyC zeroKey) (0, 0) (.array 32 5) (by with_unfolding_all exact p3.row) Try.underlying24 rfl (Try.sizeKey _ zeroKey_length) ?_) | ((with_reducible refine wpList_store_row rfl 24 (.tmp 2) (.tmp 10) rfl g1 24 (keyC zeroKey) (keyC zeroKey) (by with_unfolding_all rfl) (by with_unfolding_all rfl) (n1.row.kept hb3) (keyC_same zeroKey_length zeroKey_length) (Try.sizeKey _ zeroKey_length) (keyC_one _) ?_); intro w4 p4))
  refine bodyPost_ret (ret_row_tmp rfl _ g1 24 (keyC zeroKey) (.array 32 5) rfl p4.row Try.underlying24 rfl (Try.sizeKey _ zeroKey_length)) rfl ⟨rfl, ?_⟩
  exact p4.below (below_size n1.below hb3) (by have := n1.below.size; have := hb3.size; omega) (by rw [n1.spot]; exact Nat.le_refl _)

set_option maxHeartbeats 1000000 in
theorem refToKey_long (w : World) (v : Value) (l : List UInt8) (h : Bs w v l) (hl : 32 < l.length) :
    Calls Try.prog 63 #[v] w (RetV w (.tuple #[keyV zeroKey, .int .i64 2])) := by
  obtain ⟨A, c, rfl, h1, h2, h3⟩ := h
  unfold maxLen at h2
  clear h3
  have hd : decide ((l.length : Int) < 32) = false := by simp; omega
  have hd2 : decide ((32 : Int) < (l.length : Int)) = true := by simp; omega
  have hbk := Try.buildK
  go_enter Try.func63, Try.ntmps63
  go_wp2_with (first | ((with_reducible refine wpList_alloc_row (o := ⟨some 2, _, _, _, _, _⟩) rfl 24 rfl (keyC zeroKey) Try.zeroK ?_); intro g1 w1 n1) | ((with_reducible refine wpList_alloc_row (o := ⟨some 4, _, _, _, _, _⟩) rfl 24 rfl (keyC zeroKey) Try.zeroK ?_); intro g2 w2 n2) | ((with_reducible refine wpList_store_row rfl 24 (.tmp 4) (.tmp 6) rfl g2 24 (keyC zeroKey) (keyC zeroKey) (by with_unfolding_all rfl) (by with_unfolding_all rfl) n2.row (keyC_same zeroKey_length zeroKey_length) (Try.sizeKey _ zeroKey_length) (keyC_one _) ?_); intro w3 p3; have hb3 : Below w1.heap.size w1 w3 := p3.below n2.below n2.below.size (by rw [n2.spot]; exact Nat.le_refl _)) | (with_reducible refine wpList_load_row rfl 24 (.tmp 4) rfl g2 (by with_unfolding_all rfl) 24 (keyC zeroKey) (0, 0) (.array 32 5) (by with_unfolding_all exact p3.row) Try.underlying24 rfl (Try.sizeKey _ zeroKey_length) ?_) | ((with_reducible refine wpList_store_row rfl 24 (.tmp 2) (.tmp 14) rfl g1 24 (keyC zeroKey) (keyC zeroKey) (by with_unfolding_all rfl) (by with_unfolding_all rfl) (n1.row.kept hb3) (keyC_same zeroKey_length zeroKey_length) (Try.sizeKey _ zeroKey_length) (keyC_one _) ?_); intro w4 p4))
  refine bodyPost_ret (ret_row_tmp rfl _ g1 24 (keyC zeroKey) (.array 32 5) rfl p4.row Try.underlying24 rfl (Try.sizeKey _ zeroKey_length)) rfl ⟨rfl, ?_⟩
  exact p4.below (below_size n1.below hb3) (by have := n1.below.size; have := hb3.size; omega) (by rw [n1.spot]; exact Nat.le_refl _)

theorem refToKey_any (w : World) (v : Value) (l : List UInt8) (h : Bs w v l) :
    Calls Try.prog 63 #[v] w (RetV w (.tuple #[keyV (if l.length = 32 then l else zeroKey), .int .i64 (if l.length = 32 then 0 else if l.length < 32 then 3 else 2)])) := by
  by_cases h1 : l.length = 32
  · rw [if_pos h1, if_pos h1]
    exact refToKey_full w v l h h1
  · rw [if_neg h1, if_neg h1]
    by_cases h2 : l.length < 32
    · rw [if_pos h2]
      exact refToKey_short w v l h h2
    · rw [if_neg h2]
      exact refToKey_long w v l h (by omega)

set_option maxHeartbeats 1000000 in
theorem refBytes_any (w : World) (l : List UInt8) (hl : l.length = 32) :
    Calls Try.prog 51 #[keyV l] w (RetBs w l) := by
  have HL := Lib.hid hl
  have hl1 : l.length ≤ 32 := by omega
  have hl2 : 32 ≤ l.length := by omega
  clear hl
  go_enter Try.func51, Try.ntmps51
  go_wp2_with ((with_reducible refine wpList_box_row (o := ⟨some 1, _, _, _, _, _⟩) rfl 24 (.tmp 0) rfl (keyC l) (by with_unfolding_all rfl) ?_); intro g1 w1 n1)
  go_loopw [3, 4] (fun v i wr => ∃ k : Nat, k ≤ l.length ∧ i = .int .i64 k ∧ OwnB wr w1.heap.size 5 v (l.take k) ∧ Below w1.heap.size w1 wr) (fun _ i _ => l.length - (intOf i).toNat)
  case atStart => exact ⟨0, Nat.zero_le _, rfl, OwnB.nil _ _ _, Below.refl _ _⟩
  case round =>
    obtain ⟨k, hk, rfl, hown, hb⟩ := hrel
    have HO := Lib.hid hown
    have HB := Lib.hid hb
    have hsz := hb.size
    clear hown hb
    by_cases hlt : k < l.length
    · have hcell := keyC_cell (n1.row.kept HB.out) k hlt
      have HT := Lib.hid (List.take_succ_eq_append_getElem hlt)
      go_wp2_with (at_builtin; refine wpList_appB _ rfl (.tmp 9) (.tmp 13) 25 rfl w1 5 Try.infoB Try.underlying25 _ _ _ [l[k]] rfl rfl (HO.out.alloc _) (Bs.lit1 _ _ _ _ rfl) (by simp; omega) (HB.out.alloc hsz _) ?_; intro v2 w2 hown2 hb2)
      go_roundw
      case rel => exact ⟨k + 1, by omega, by go_num, by rw [HT.out]; exact hown2, hb2⟩
      case measure => simp [intOf]; omega
    · have HO2 : Hid (OwnB wr w1.heap.size 5 u3 l) := by
        have := HO.out; rwa [List.take_of_length_le (by omega)] at this
      go_wp2
      go_ret
      exact ⟨_, rfl, HO2.out.bs, below_size n1.below HB.out⟩
end Go.Proofs.Ytmhhjdiilmgmoaa
end
