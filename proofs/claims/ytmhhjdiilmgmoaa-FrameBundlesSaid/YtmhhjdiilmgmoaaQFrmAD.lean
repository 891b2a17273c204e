/-
  Texts that belong together, merged: CodA, CodB, CodC, CodD, CodI. Conditions: as each theorem names them.
-/
import Derived.Test.YtmhhjdiilmgmoaaQFrmAA
import Derived.Test.YtmhhjdiilmgmoaaQFrmAB
import Derived.Test.YtmhhjdiilmgmoaaQFrmAC
import Derived.Maps.AppendAt
import Derived.Lib.SliceRun
import Derived.Laws.CopyRow
import Derived.RangeFuncNested
section
namespace Go.Proofs.Ytmhhjdiilmgmoaa
open Go.RowKit
set_option linter.unusedVariables false
set_option maxRecDepth 20000

/-- A slice of whole numbers reads as l. -/
def Zs (w : World) (v : Value) (l : List Int) : Prop :=
  ∃ A c, v = .slice A l.length c ∧ l.length ≤ c ∧ c ≤ maxLen ∧ (0 < l.length → ∃ b off, A = some ⟨b, off, none⟩ ∧ ∀ j (h : j < l.length), w.cell? ⟨b, off + j, none⟩ = some (.int .i64 l[j]))
theorem Zs.keep {w w' : World} {v : Value} {l : List Int} (h : Zs w v l) (hk : ∀ p : Addr, p.block < w.heap.size → w'.cell? p = w.cell? p) : Zs w' v l := by
  obtain ⟨A, c, hv, h1, h2, h3⟩ := h
  refine ⟨A, c, hv, h1, h2, fun hl => ?_⟩
  obtain ⟨b, off, hA, hc⟩ := h3 hl
  exact ⟨b, off, hA, fun j hj => (hk _ (World.block_lt_of_cell? w _ (hc j hj))).trans (hc j hj)⟩
theorem Zs.below {w w' : World} {v : Value} {l : List Int} (h : Zs w v l) (hb : Below w.heap.size w w') : Zs w' v l := h.keep fun _ hp => hb.cell hp

/-- A slice of keys reads as ls. -/
def Kl (w : World) (v : Value) (ls : List (List UInt8)) : Prop :=
  ∃ A c, v = .slice A ls.length c ∧ ls.length ≤ c ∧ c ≤ maxLen ∧ (∀ l ∈ ls, l.length = 32) ∧ (0 < ls.length → ∃ b o, A = some ⟨b, o, none⟩ ∧ ∀ (k : Nat) (l : List UInt8), ls[k]? = some l → w.rangeAt b (o + k * 32) (cellsB l))
theorem Kl.nil (w : World) : Kl w (.slice none 0 0) [] := ⟨none, 0, rfl, Nat.le_refl _, by simp [maxLen], by simp, fun h => absurd h (by simp)⟩
theorem Kl.keep {w w' : World} {v : Value} {ls : List (List UInt8)} (h : Kl w v ls) (hk : ∀ p : Addr, p.block < w.heap.size → w'.cell? p = w.cell? p) : Kl w' v ls := by
  obtain ⟨A, c, hv, h1, h2, h4, h3⟩ := h
  refine ⟨A, c, hv, h1, h2, h4, fun hl => ?_⟩
  obtain ⟨b, o, hA, hc⟩ := h3 hl
  exact ⟨b, o, hA, fun k l e j u hj => (hk ⟨b, o + k * 32 + j, none⟩ (World.block_lt_of_cell? w _ (hc k l e j u hj))).trans (hc k l e j u hj)⟩
theorem Kl.below {w w' : World} {v : Value} {ls : List (List UInt8)} (h : Kl w v ls) (hb : Below w.heap.size w w') : Kl w' v ls := h.keep fun _ hp => hb.cell hp

/-- One row may have turned; what is told of bytes and keys stays, where that row holds none. -/
theorem Bs.turn {w w' : World} {g : Nat} {t : TypeId} {cs : Array Value} {v : Value} {l : List UInt8} (h : Bs w v l) (hr : RowAt w g t cs) (hcs : ∀ (j : Nat) (x : Int), cs[j]? ≠ some (Value.int .u8 x)) (hg : w.grownBy w' (some g)) : Bs w' v l := by
  obtain ⟨A, c, hv, h1, h2, h3⟩ := h
  refine ⟨A, c, hv, h1, h2, fun hl => ?_⟩
  obtain ⟨b, off, hA, hc⟩ := h3 hl
  refine ⟨b, off, hA, fun j hj => hg.cell (hc j hj) fun e => ?_⟩
  injection e with e
  have h4 := hc j hj
  simp only at e
  subst e
  rw [hr.cell] at h4
  exact hcs _ _ h4
theorem Kl.turn {w w' : World} {g : Nat} {t : TypeId} {cs : Array Value} {v : Value} {ls : List (List UInt8)} (h : Kl w v ls) (hr : RowAt w g t cs) (hcs : ∀ (j : Nat) (x : Int), cs[j]? ≠ some (Value.int .u8 x)) (hg : w.grownBy w' (some g)) : Kl w' v ls := by
  obtain ⟨A, c, hv, h1, h2, h5, h3⟩ := h
  refine ⟨A, c, hv, h1, h2, h5, fun hl => ?_⟩
  obtain ⟨b, o, hA, hc⟩ := h3 hl
  refine ⟨b, o, hA, fun k l e j u hj => hg.cell (hc k l e j u hj) fun e2 => ?_⟩
  injection e2 with e2
  have h4 := hc k l e j u hj
  simp only at e2
  subst e2
  rw [hr.cell] at h4
  obtain ⟨x, _, rfl⟩ := List.mem_map.1 (List.mem_of_getElem? hj)
  exact hcs _ _ h4

/-- What an In or an Out has: bytes, and an error. -/
structure St where
  l : List UInt8
  e : Int
def St.fail (s : St) (x : Int) : St := if s.e = 0 then ⟨[], x⟩ else s
def isNum (z : Int) : Bool := z == 1 || z == 2 || z == 4 || z == 8
/-! In. -/
def St.taken (s : St) (n : Nat) : St := if s.l.length < n then s.fail 3 else s
def St.take (s : St) (n : Nat) : List UInt8 := if (s.taken n).e = 0 then s.l.take n else []
def St.rest (s : St) (n : Nat) : St := if (s.taken n).e = 0 then ⟨s.l.drop n, 0⟩ else s.taken n
def St.num (s : St) (z : Int) : Nat := if isNum z then ofHighB ((s.take z.toNat).take 8) else 0
def St.numS (s : St) (z : Int) : St := if isNum z then s.rest z.toNat else s.fail 51
def St.cnt (s : St) (most : Int) : Nat := if (s.num 2 : Int) > most then 0 else s.num 2
def St.cntS (s : St) (most : Int) : St := if (s.num 2 : Int) > most then (s.numS 2).fail 2 else s.numS 2
def St.byt (s : St) (most : Int) : List UInt8 := (s.cntS (min most 4000)).take (s.cnt (min most 4000))
def St.bytS (s : St) (most : Int) : St := (s.cntS (min most 4000)).rest (s.cnt (min most 4000))
def St.key (s : St) : List UInt8 := if (s.take 32).length = 32 then s.take 32 else zeroKey
def St.keyB (s : St) (most : Int) : List UInt8 := (s.cntS (min most 100)).take (32 * s.cnt (min most 100))
def St.keyS (s : St) (most : Int) : St := (s.cntS (min most 100)).rest (32 * s.cnt (min most 100))
/-- Bytes, cut into keys. -/
def cut32 : Nat → List UInt8 → List (List UInt8)
  | 0, _ => []
  | n + 1, l => l.take 32 :: cut32 n (l.drop 32)
def St.keys (s : St) (most : Int) : List (List UInt8) := cut32 ((s.keyB most).length / 32) (s.keyB most)
def St.fin (s : St) : Int := if s.e = 0 then (if s.l = [] then 0 else 50) else s.e
/-! Out. -/
def St.put (s : St) (b : List UInt8) : St := if s.e = 0 then ⟨s.l ++ b, 0⟩ else s
def St.wNum (s : St) (n : Nat) (z : Int) : St := if isNum z ∧ n < 256 ^ z.toNat then s.put (lowB n z.toNat).reverse else s.fail 51
def St.wByt (s : St) (b : List UInt8) : St := if b.length > 4000 then s.fail 2 else (s.put (lowB b.length 2).reverse).put b
def St.wKey (s : St) (ls : List (List UInt8)) : St := if ls.length > 100 then s.fail 2 else (s.put (lowB ls.length 2).reverse).put ls.flatten

theorem St.take_length (s : St) (n : Nat) : (s.take n).length ≤ n := by
  unfold St.take
  split <;> simp <;> omega
theorem St.take_short (s : St) (n : Nat) : (s.take n).length = n ∨ s.take n = [] := by
  unfold St.take St.taken St.fail
  by_cases h : s.l.length < n
  · right
    rw [if_pos h]
    by_cases h2 : s.e = 0
    · simp [h2]
    · simp [h2]
  · rw [if_neg h]
    by_cases h2 : s.e = 0
    · left; rw [if_pos h2, List.length_take]; omega
    · right; rw [if_neg h2]

/-- The slice lies in a row of bytes, if anywhere. -/
def U8At (w : World) (v : Value) : Prop := ∀ k, v.ownBlock = some k → ∃ cur, RowAt w k 5 cur
theorem U8At.nil (w : World) (n c : Nat) : U8At w (.slice none n c) := fun k h => by cases h
theorem U8At.below {w w' : World} {v : Value} (h : U8At w v) (hb : Below w.heap.size w w') : U8At w' v := fun k hk => by
  obtain ⟨cur, hr⟩ := h k hk
  exact ⟨cur, hr.kept hb⟩
theorem U8At.of {w : World} {base : Nat} {v : Value} {l : List UInt8} (h : OwnB w base 5 v l) : U8At w v := fun k hk => h.spot hk
theorem U8At.turn {w w' : World} {g : Nat} {t : TypeId} {cs : Array Value} {v : Value} (h : U8At w v) (hr : RowAt w g t cs) (ht : t ≠ 5) (hg : w.grownBy w' (some g)) : U8At w' v := fun k hk => by
  obtain ⟨cur, h2⟩ := h k hk
  refine ⟨cur, h2.grown hg fun e => ?_⟩
  injection e with e
  subst e
  have e2 := hr.symm.trans h2
  injection e2 with e2
  injection e2 with _ e2 _
  exact ht e2
theorem U8At.apart {w : World} {g : Nat} {t : TypeId} {cs : Array Value} {v : Value} (h : U8At w v) (hr : RowAt w g t cs) (ht : t ≠ 5) : v.ownBlock ≠ some g := fun e => by
  obtain ⟨cur, h2⟩ := h g e
  have e2 := hr.symm.trans h2
  injection e2 with e2
  injection e2 with _ e2 _
  exact ht e2
theorem U8At.cut {w : World} {A : Option Addr} {n c n' c' : Nat} (h : U8At w (.slice A n c)) (k : Nat) : U8At w (.slice (if c = k then A else Option.map (fun x => x.add k) A) n' c') := fun j hj => by
  rcases A with _ | ⟨b, o, sp⟩
  · split at hj <;> simp [Value.ownBlock] at hj
  · refine h j ?_
    split at hj
    · exact hj
    · simp only [Option.map_some, Value.ownBlock] at hj ⊢
      rw [← hj]
      unfold Addr.add
      split <;> rfl
theorem Bs.farOf {w w' : World} {g : Nat} {v : Value} {l : List UInt8} (h : Bs w v l) (ha : v.ownBlock ≠ some g) (hg : w.grownBy w' (some g)) : Bs w' v l := by
  obtain ⟨A, c, rfl, h1, h2, h3⟩ := h
  refine ⟨A, c, rfl, h1, h2, fun hl => ?_⟩
  obtain ⟨b, off, rfl, hc⟩ := h3 hl
  refine ⟨b, off, rfl, fun j hj => hg.cell (hc j hj) fun e => ?_⟩
  injection e with e
  simp only at e
  subst e
  exact ha rfl
/-- The slice lies in a row of keys, if anywhere. -/
def KyAt (w : World) (v : Value) : Prop := ∀ k, v.ownBlock = some k → ∃ cur, RowAt w k 24 cur
theorem KyAt.nil (w : World) (n c : Nat) : KyAt w (.slice none n c) := fun k h => by cases h
theorem KyAt.below {w w' : World} {v : Value} (h : KyAt w v) (hb : Below w.heap.size w w') : KyAt w' v := fun k hk => by
  obtain ⟨cur, hr⟩ := h k hk
  exact ⟨cur, hr.kept hb⟩
theorem U8At.grown {w w' : World} {v : Value} {row : Option Nat} (h : U8At w v) (hg : w.grownBy w' row) (hr : v.ownBlock ≠ row ∨ row = none) : U8At w' v := fun k hk => by
  obtain ⟨cur, h2⟩ := h k hk
  refine ⟨cur, h2.grown hg fun e => ?_⟩
  rcases hr with hr | hr
  · exact hr (hk.trans e)
  · rw [hr] at e; cases e
theorem KyAt.grown {w w' : World} {v : Value} {row : Option Nat} (h : KyAt w v) (hg : w.grownBy w' row) (hr : v.ownBlock ≠ row ∨ row = none) : KyAt w' v := fun k hk => by
  obtain ⟨cur, h2⟩ := h k hk
  refine ⟨cur, h2.grown hg fun e => ?_⟩
  rcases hr with hr | hr
  · exact hr (hk.trans e)
  · rw [hr] at e; cases e
theorem Bs.grown2 {w w' : World} {v : Value} {l : List UInt8} {row : Option Nat} (h : Bs w v l) (hg : w.grownBy w' row) (hr : v.ownBlock ≠ row ∨ row = none) : Bs w' v l := by
  obtain ⟨A, c, rfl, h1, h2, h3⟩ := h
  refine ⟨A, c, rfl, h1, h2, fun hl => ?_⟩
  obtain ⟨b, off, rfl, hc⟩ := h3 hl
  refine ⟨b, off, rfl, fun j hj => hg.cell (hc j hj) fun e => ?_⟩
  rcases hr with hr | hr
  · exact hr e
  · rw [hr] at e; cases e
theorem Kl.grown2 {w w' : World} {v : Value} {ls : List (List UInt8)} {row : Option Nat} (h : Kl w v ls) (hg : w.grownBy w' row) (hr : v.ownBlock ≠ row ∨ row = none) : Kl w' v ls := by
  obtain ⟨A, c, rfl, h1, h2, h4, h3⟩ := h
  refine ⟨A, c, rfl, h1, h2, h4, fun hl => ?_⟩
  obtain ⟨b, off, rfl, hc⟩ := h3 hl
  refine ⟨b, off, rfl, fun k l hk j u hj => hg.cell (hc k l hk j u hj) fun e => ?_⟩
  rcases hr with hr | hr
  · exact hr e
  · rw [hr] at e; cases e
theorem U8At.other {w : World} {v : Value} {g : Nat} {t : TypeId} {cs : Array Value} (h : U8At w v) (hr : RowAt w g t cs) (ht : t ≠ 5) : v.ownBlock ≠ some g := h.apart hr ht
theorem KyAt.other {w : World} {v : Value} {g : Nat} {t : TypeId} {cs : Array Value} (h : KyAt w v) (hr : RowAt w g t cs) (ht : t ≠ 24) : v.ownBlock ≠ some g := fun e => by
  obtain ⟨cur, h2⟩ := h g e
  have e2 := hr.symm.trans h2
  injection e2 with e2
  injection e2 with _ e2 _
  exact ht e2
/-- An In at i. -/
def InAt (w : World) (i : Nat) (s : St) : Prop := ∃ v, RowAt w i 82 #[v, .int .i64 s.e] ∧ Bs w v s.l ∧ U8At w v
/-- An Out at o, with what was written in v. -/
def OutAt (w : World) (o : Nat) (v : Value) (s : St) : Prop := RowAt w o 73 #[v, .int .i64 s.e] ∧ OwnB w 0 5 v s.l

theorem no_u8 {w : World} {v : Value} {l : List UInt8} (h : Bs w v l) (e : Int) : ∀ (j : Nat) (x : Int), (#[v, .int .i64 e] : Array Value)[j]? ≠ some (Value.int .u8 x) := by
  obtain ⟨A, c, rfl, _⟩ := h
  intro j x hx
  match j, hx with
  | 0, hx => simp at hx
  | 1, hx => simp at hx
theorem InAt.kept {w w' : World} {i : Nat} {s : St} (h : InAt w i s) (hb : Below w.heap.size w w') : InAt w' i s := by
  obtain ⟨v, hr, hv, hu⟩ := h
  exact ⟨v, hr.kept hb, hv.below hb, hu.below hb⟩
theorem InAt.far {w w' : World} {i g : Nat} {s : St} {t : TypeId} {cs : Array Value} (h : InAt w i s) (hr : RowAt w g t cs) (ht : t ≠ 5) (hne : g ≠ i) (hg : w.grownBy w' (some g)) : InAt w' i s := by
  obtain ⟨v, h1, h2, h3⟩ := h
  exact ⟨v, h1.grown hg (by intro e; injection e with e; exact hne e.symm), h2.farOf (h3.apart hr ht) hg, h3.turn hr ht hg⟩
theorem InAt.lt {w : World} {i : Nat} {s : St} (h : InAt w i s) : i < w.heap.size := by obtain ⟨v, hr, _⟩ := h; exact hr.lt
theorem InAt.drew {w : World} {i : Nat} {s : St} (h : InAt w i s) : InAt w.drew i s := h
theorem InAt.bs {w w' : World} {i : Nat} {s : St} (h : InAt w i s) {v : Value} {l : List UInt8} (hb : Bs w v l) (hg : w.grownBy w' (some i)) : Bs w' v l := by
  obtain ⟨v2, hr, hv, _⟩ := h
  exact hb.turn hr (no_u8 hv _) hg
theorem InAt.kl {w w' : World} {i : Nat} {s : St} (h : InAt w i s) {v : Value} {l : List (List UInt8)} (hb : Kl w v l) (hg : w.grownBy w' (some i)) : Kl w' v l := by
  obtain ⟨v2, hr, hv, _⟩ := h
  exact hb.turn hr (no_u8 hv _) hg
theorem alloc_below (w : World) (o : Obj) : Below w.heap.size w (w.alloc o) := (Below.refl _ _).alloc (Nat.le_refl _) _
theorem grown_any {w w' : World} (h : Below w.heap.size w w') (r : Option Nat) : w.grownBy w' r := ⟨h.os, h.tape, h.output, h.size, fun k hk _ => h.block k hk⟩
theorem grown_drewN {w w' : World} {r : Option Nat} (h : w.grownBy w' r) (n : Nat) : w.grownBy (w'.drewN n) r := ⟨h.os, h.tape, h.output, h.size, h.block⟩

theorem Bs.low {w : World} {v : Value} {l : List UInt8} (h : Bs w v l) (hl : 0 < l.length) : ∀ k, v.ownBlock = some k → k < w.heap.size := by
  obtain ⟨A, c, rfl, _, _, h3⟩ := h
  obtain ⟨b, off, rfl, hc⟩ := h3 hl
  intro k hk
  obtain rfl : b = k := by simpa [Value.ownBlock] using hk
  exact World.block_lt_of_cell? w _ (hc 0 hl)
theorem Kl.low {w : World} {v : Value} {ls : List (List UInt8)} (h : Kl w v ls) (hl : 0 < ls.length) : ∀ k, v.ownBlock = some k → k < w.heap.size := by
  obtain ⟨A, c, rfl, _, _, h4, h3⟩ := h
  obtain ⟨b, off, rfl, hc⟩ := h3 hl
  intro k hk
  obtain rfl : b = k := by simpa [Value.ownBlock] using hk
  have e : ls[0]? = some ls[0] := List.getElem?_eq_getElem hl
  have h32 := h4 ls[0] (List.getElem_mem hl)
  have h1 := hc 0 ls[0] e 0 _ (cellsB_get ls[0] 0 (by omega))
  exact World.block_lt_of_cell? w _ h1

/-- What a call did to an Out: its row and the row of what was written may have turned; the latter is another one only if it is new. -/
structure OutStep (w w' : World) (o : Nat) (v v' : Value) : Prop where
  os : w'.os = w.os
  tape : w'.tape = w.tape
  output : w'.output = w.output
  size : w.heap.size ≤ w'.heap.size
  block : ∀ k, k < w.heap.size → k ≠ o → v.ownBlock ≠ some k → w'.heap[k]? = w.heap[k]?
  lies : ∀ k, v'.ownBlock = some k → v.ownBlock = some k ∨ w.heap.size ≤ k
theorem OutStep.refl (w : World) (o : Nat) (v : Value) : OutStep w w o v v := ⟨rfl, rfl, rfl, Nat.le_refl _, fun _ _ _ _ => rfl, fun _ h => .inl h⟩
theorem OutStep.trans {a b c : World} {o : Nat} {u v x : Value} (h : OutStep a b o u v) (k : OutStep b c o v x) : OutStep a c o u x where
  os := k.os.trans h.os
  tape := k.tape.trans h.tape
  output := k.output.trans h.output
  size := Nat.le_trans h.size k.size
  block i hi h1 h2 := by
    refine (k.block i (Nat.lt_of_lt_of_le hi h.size) h1 fun e => ?_).trans (h.block i hi h1 h2)
    rcases h.lies i e with h3 | h3
    · exact h2 h3
    · omega
  lies i hi := by
    rcases k.lies i hi with h3 | h3
    · exact h.lies i h3
    · exact .inr (Nat.le_trans h.size h3)
theorem OutStep.below {a b : World} {o : Nat} {v : Value} (h : Below a.heap.size a b) : OutStep a b o v v := ⟨h.os, h.tape, h.output, h.size, fun i hi _ _ => h.block i hi, fun _ h => .inl h⟩
theorem OutStep.row {a b : World} {o : Nat} {v v' : Value} (h : a.grownBy b (some o)) (hl : ∀ k, v'.ownBlock = some k → v.ownBlock = some k ∨ a.heap.size ≤ k) : OutStep a b o v v' :=
  ⟨h.os, h.tape, h.output, h.size, fun i hi h1 _ => h.block i hi (fun e => by injection e with e; exact h1 e), hl⟩
theorem OutStep.own {a b : World} {o : Nat} {v v' : Value} (h : a.grownBy b v.ownBlock) (hl : v'.ownBlock = v.ownBlock ∨ ∀ k, v'.ownBlock = some k → a.heap.size ≤ k) : OutStep a b o v v' :=
  ⟨h.os, h.tape, h.output, h.size, fun i hi _ h2 => h.block i hi (fun e => h2 e.symm), fun k hk => hl.imp (fun e => e.symm.trans hk) fun h => h k hk⟩
/-- Where both lie above B all below it is as it was. -/
theorem OutStep.base {B : Nat} {w0 a b : World} {o : Nat} {v v' : Value} (h : OutStep a b o v v') (h0 : Below B w0 a) (hB : B ≤ a.heap.size) (ho : B ≤ o) (hv : ∀ k, v.ownBlock = some k → B ≤ k) : Below B w0 b ∧ ∀ k, v'.ownBlock = some k → B ≤ k := by
  refine ⟨h0.trans ⟨h.os, h.tape, h.output, h.size, fun k hk => h.block k (Nat.lt_of_lt_of_le hk hB) (by omega) fun e => ?_⟩, fun k hk => ?_⟩
  · have := hv k e; omega
  · rcases h.lies k hk with h1 | h1
    · exact hv k h1
    · omega
theorem OutAt.kept {w w' : World} {o : Nat} {v : Value} {s : St} (h : OutAt w o v s) (hb : Below w.heap.size w w') : OutAt w' o v s := ⟨h.1.kept hb, h.2.below hb⟩
theorem OutAt.far {w : World} {o : Nat} {v : Value} {s : St} (h : OutAt w o v s) : some o ≠ v.ownBlock := h.2.other h.1 (by decide)
/-- A row that is neither of the two. -/
theorem OutStep.keeps {a b : World} {o g : Nat} {v v' : Value} {t : TypeId} {cs : Array Value} (h : OutStep a b o v v') (hr : RowAt a g t cs) (h1 : g ≠ o) (h2 : v.ownBlock ≠ some g) : RowAt b g t cs := (h.block g hr.lt h1 h2).trans hr
theorem OutStep.bs {a b : World} {o : Nat} {v v' u : Value} {l : List UInt8} (h : OutStep a b o v v') (hb : Bs a u l) (h1 : 0 < l.length → ∀ k, u.ownBlock = some k → k ≠ o ∧ v.ownBlock ≠ some k) : Bs b u l := by
  obtain ⟨A, c, rfl, q1, q2, q3⟩ := hb
  refine ⟨A, c, rfl, q1, q2, fun hl => ?_⟩
  obtain ⟨g, off, rfl, hc⟩ := q3 hl
  obtain ⟨h2, h3⟩ := h1 hl g rfl
  exact ⟨g, off, rfl, fun j hj => (World.cell?_of_block (a := ⟨g, off + j, none⟩) (h.block g (World.block_lt_of_cell? a _ (hc j hj)) h2 h3)).trans (hc j hj)⟩
end Go.Proofs.Ytmhhjdiilmgmoaa
end
section
namespace Go.Proofs.Ytmhhjdiilmgmoaa
open Go.RowKit
set_option linter.unusedVariables false
set_option maxRecDepth 20000

set_option maxHeartbeats 1000000 in
theorem Index_any (w : World) (v : Value) (l : List Int) (z : Int) (h : Zs w v l) :
    Calls Try.prog 70 #[v, .int .i64 z] w fun e w' => ∃ r : Int, e = .returned (.int .i64 r) ∧ (decide (0 ≤ r) = decide (z ∈ l)) ∧ w = w' := by
  obtain ⟨A, c, rfl, h1, h2, h3⟩ := h
  unfold maxLen at h2
  go_enter Try.func70, Try.ntmps70
  go_wp2
  go_loopw [8] (fun i wr => ∃ j : Nat, j ≤ l.length ∧ i = .int .i64 (j : Int) ∧ wr = w ∧ z ∉ l.take j) (fun i _ => l.length - (intOf i).toNat)
  case atStart => exact ⟨0, by omega, rfl, rfl, by simp⟩
  case round =>
    obtain ⟨j, hj, rfl, rfl, hn⟩ := hrel
    have HN := Lib.hid hn
    clear hn
    by_cases hlt : j < l.length
    · obtain ⟨b, off, rfl, hc⟩ := h3 (by omega)
      have hcell := hc j hlt
      have hw1 : IntKind.i64.wrap ((j : Int) + 1) = (j : Int) + 1 := IntWalk.i64_in _ (by omega)
      have hq0 : ¬ ((j : Int) < 0) := by omega
      have hlt2 : (j : Int) < (l.length : Int) := by omega
      have HT : Hid (l.take (j + 1) = l.take j ++ [l[j]]) := List.take_succ_eq_append_getElem hlt
      have HM : Hid (l[j] ∈ l) := List.getElem_mem hlt
      obtain ⟨y, hy⟩ : ∃ y, y = l[j] := ⟨_, rfl⟩
      rw [← hy] at hcell HT HM
      clear hc h3 hy
      by_cases hz : z = y
      · subst hz
        have hd : decide (z = z) = true := by simp
        go_wp2
        go_ret
        exact ⟨_, rfl, ⟨fun _ => HM.out, fun _ => by omega⟩, rfl⟩
      · have hd : decide (z = y) = false := by simp [hz]
        go_wp2
        refine ⟨⟨j + 1, by omega, by congr 1, trivial, ?_⟩, ?_⟩
        · rw [HT.out]
          intro hm
          rcases List.mem_append.1 hm with hm | hm
          · exact HN.out hm
          · exact hz (List.mem_singleton.1 hm)
        · show l.length - ((j : Int) + 1).toNat < l.length - (j : Int).toNat
          omega
    · have hj2 : j = l.length := by omega
      subst hj2
      go_wp2
      go_ret
      refine ⟨_, rfl, ?_, rfl⟩
      have := HN.out
      rw [List.take_length] at this
      rw [decide_eq_false this]
      rfl
theorem Contains_any (w : World) (v : Value) (l : List Int) (z : Int) (h : Zs w v l) :
    Calls Try.prog 67 #[v, .int .i64 z] w fun e w' => e = .returned (.bool (decide (z ∈ l))) ∧ w = w' := by
  have HC : Hid (∀ w, Zs w v l → Calls Try.prog 70 #[v, .int .i64 z] w fun e w' => ∃ r : Int, e = .returned (.int .i64 r) ∧ (decide (0 ≤ r) = decide (z ∈ l)) ∧ w = w') := fun w h => Index_any w v l z h
  have HH := Lib.hid h
  obtain ⟨A, c, rfl, _, _, _⟩ := h
  go_enter Try.func67, Try.ntmps67
  go_wp2_with fail
  refine (HC.out _ HH.out).mono ?_
  intro e w1 h
  obtain ⟨r, he, hr, hw⟩ := h
  subst he hw
  go_wp2
  go_ret
  exact ⟨by rw [← hr]; rfl, rfl⟩
theorem isNumber_any (w : World) (z : Int) : Calls Try.prog 55 #[.int .i64 z] w (RetV w (.bool (isNum z))) := by
  have HC : Hid (∀ w v, Zs w v [1, 2, 4, 8] → Calls Try.prog 67 #[v, .int .i64 z] w fun e w' => e = .returned (.bool (isNum z)) ∧ w = w') := fun w v h => by
    have e : isNum z = decide (z ∈ [1, 2, 4, 8]) := by simp [isNum, Bool.decide_or, Bool.or_assoc]; rfl
    rw [e]
    exact Contains_any w v _ z h
  have HN : Hid (∀ w, Calls Try.prog 68 #[] w fun e w' => ∃ v, e = .returned v ∧ Zs w' v [1, 2, 4, 8] ∧ Below w.heap.size w w') := fun w => by
    go_enter Try.func68, Try.ntmps68
    go_wp2
    go_ret
    refine ⟨_, rfl, ⟨_, 4, rfl, by simp, by simp [maxLen], fun _ => ⟨w.heap.size, 0, rfl, fun j hj => ?_⟩⟩, alloc_below _ _⟩
    have hr := (RowAt.new w 3 #[.int .i64 1, .int .i64 2, .int .i64 4, .int .i64 8]).cell
    match j, hj with
    | 0, _ => exact hr 0
    | 1, _ => exact hr 1
    | 2, _ => exact hr 2
    | 3, _ => exact hr 3
  go_enter Try.func55, Try.ntmps55
  go_wp2_with fail
  refine (HN.out _).mono ?_
  intro e w1 h
  obtain ⟨v, he, hz, hb⟩ := h
  subst he
  have HZ := Lib.hid hz
  have HB := Lib.hid hb
  obtain ⟨A, c, rfl, _, _, _⟩ := hz
  clear hb
  go_wp2_with fail
  refine (HC.out _ _ HZ.out).mono ?_
  intro e w2 h
  obtain ⟨he, hw⟩ := h
  subst he hw
  go_wp2
  go_ret
  exact ⟨rfl, HB.out⟩
theorem clone_any (w : World) (v : Value) (l : List UInt8) (h : Bs w v l) (hl : l.length ≤ 140737488355000) :
    Calls Try.prog 46 #[v] w fun e w' => ∃ v', e = .returned v' ∧ OwnB w' w.heap.size 5 v' l ∧ Below w.heap.size w w' := by
  have HH := Lib.hid h
  obtain ⟨A, c, rfl, h1, h2, h3⟩ := h
  rcases A with _ | ad
  · have hl0 : l = [] := by
      rcases l with _ | ⟨b, l⟩
      · rfl
      · obtain ⟨_, _, h, _⟩ := h3 (by simp)
        cases h
    subst hl0
    clear h3
    have hq : ∀ (w : World), (binOp .eql 25 (.slice none 0 c) (.slice none 0 0)).run Try.prog w = .ok (.bool true) w := fun w => Lib.run_eql_slice_nil w _ _ none 0 c 0 0 Try.underlying25
    go_enter Try.func46, Try.ntmps46
    go_wp2
    go_ret
    exact ⟨_, rfl, OwnB.nil _ _ _, Below.refl _ _⟩
  · clear h3
    have hq : ∀ (w : World), (binOp .eql 25 (.slice (some ad) l.length c) (.slice none 0 0)).run Try.prog w = .ok (.bool false) w := fun w => Lib.run_eql_slice_nil w _ _ (some ad) l.length c 0 0 Try.underlying25
    have E : Hid (OwnB (w.alloc (.cells #[] 5)) w.heap.size 5 (.slice (some ⟨w.heap.size, 0, none⟩) 0 0) []) := World.ownsRow_lit (base := w.heap.size) (e := 5) (size := 1) w #[] 0 (Nat.le_refl _) (by simp [maxLen]) rfl
    have hb := alloc_below w (.cells #[] 5)
    have HB := Lib.hid hb
    clear hb
    go_enter Try.func46, Try.ntmps46
    go_wp2_with (at_builtin; refine wpList_appB _ (o := ⟨some 7, _, _, _, _, _⟩) rfl (.tmp 5) (.tmp 6) 25 rfl w 5 (by kernel_rfl) Try.underlying25 _ _ [] l rfl rfl E.out (HH.out.below HB.out) (by simp; omega) HB.out ?_; intro v6 w6 own6 b6)
    go_ret
    exact ⟨_, rfl, own6, b6⟩
end Go.Proofs.Ytmhhjdiilmgmoaa
end
section
namespace Go.Proofs.Ytmhhjdiilmgmoaa
open Go.RowKit
set_option linter.unusedVariables false
set_option maxRecDepth 20000

theorem Bs.fore {w : World} {A : Option Addr} {n c : Nat} {l : List UInt8} (h : Bs w (.slice A n c) l) (k : Nat) (hk : k ≤ l.length) : Bs w (.slice A k c) (l.take k) := by
  obtain ⟨A', c', hv, h1, h2, h3⟩ := h
  injection hv with e1 e2 e3
  subst e1 e2 e3
  have hl : (l.take k).length = k := List.length_take_of_le hk
  refine ⟨A, c, by rw [hl], by rw [hl]; omega, h2, fun h0 => ?_⟩
  rw [hl] at h0
  obtain ⟨b, off, hA, hc⟩ := h3 (by omega)
  refine ⟨b, off, hA, fun j hj => ?_⟩
  rw [hl] at hj
  rw [hc j (by omega)]
  simp
theorem grown_two (w : World) (i : Nat) (a b : Value) : w.grownBy ((w.setCell ⟨i, 0, none⟩ a).setCell ⟨i, 1, none⟩ b) (some i) := (grown_setCell w i 0 a).trans (grown_setCell _ i 1 b)
theorem RowAt.two {w : World} {i : Nat} {t : TypeId} {x y : Value} (h : RowAt w i t #[x, y]) (a b : Value) : RowAt ((w.setCell ⟨i, 0, none⟩ a).setCell ⟨i, 1, none⟩ b) i t #[a, b] := (h.put 0 a).put 1 b
theorem RowAt.fst {w : World} {i : Nat} {t : TypeId} {x y : Value} (h : RowAt w i t #[x, y]) (a : Value) : RowAt (w.setCell ⟨i, 0, none⟩ a) i t #[a, y] := h.put 0 a

set_option maxHeartbeats 1000000 in
theorem inFail_any (w : World) (i : Nat) (s : St) (x : Int) (h : InAt w i s) :
    Calls Try.prog 56 #[.pointer (some ⟨i, 0, none⟩), .int .i64 x] w fun e w' => e = .returned (.tuple #[]) ∧ InAt w' i (s.fail x) ∧ w.grownBy w' (some i) := by
  obtain ⟨l, y⟩ := s
  obtain ⟨v, hr, hv, hu⟩ := h
  have HU := Lib.hid hu
  clear hu
  have c0 : w.cell? ⟨i, 0, none⟩ = some v := hr.cell 0
  have c1 : w.cell? ⟨i, 1, none⟩ = some (.int .i64 y) := hr.cell 1
  have z0 : w.frozen? ⟨i, 0, none⟩ = false := hr.frozen 0
  have z1 : w.frozen? ⟨i, 1, none⟩ = false := hr.frozen 1
  have HR := Lib.hid hr
  have HV := Lib.hid hv
  obtain ⟨A, c, rfl, _, _, _⟩ := hv
  clear hr
  by_cases hy : y = 0
  · subst hy
    go_enter Try.func56, Try.ntmps56
    go_wp2
    go_end0
    refine ⟨rfl, ?_, grown_two w i _ _⟩
    exact ⟨_, HR.out.two _ _, Bs.nil _, U8At.nil _ _ _⟩
  · have hd : decide (y = 0) = false := by simp [hy]
    go_enter Try.func56, Try.ntmps56
    go_wp2
    go_end0
    refine ⟨rfl, ?_, World.grownBy.refl _ _⟩
    unfold St.fail
    rw [if_neg hy]
    exact ⟨_, HR.out, HV.out, HU.out⟩

theorem inNum_shape (z : Int) (h : isNum z = true) : z = 1 ∨ z = 2 ∨ z = 4 ∨ z = 8 := by
  simp [isNum] at h
  rcases h with ((h | h) | h) | h <;> simp [h]

set_option maxHeartbeats 1000000 in
theorem inTake_any (w : World) (i : Nat) (s : St) (n : Nat) (h : InAt w i s) :
    Calls Try.prog 58 #[.pointer (some ⟨i, 0, none⟩), .int .i64 (n : Int)] w fun e w' => ∃ v, e = .returned v ∧ Bs w' v (s.take n) ∧ InAt w' i (s.rest n) ∧ w.grownBy w' (some i) := by
  have HH := Lib.hid h
  obtain ⟨l, y⟩ := s
  obtain ⟨v, hr, hv, hu⟩ := h
  have HU := Lib.hid hu
  clear hu
  have c0 : w.cell? ⟨i, 0, none⟩ = some v := hr.cell 0
  have c1 : w.cell? ⟨i, 1, none⟩ = some (.int .i64 y) := hr.cell 1
  have z0 : w.frozen? ⟨i, 0, none⟩ = false := hr.frozen 0
  have HR := Lib.hid hr
  have HV := Lib.hid hv
  obtain ⟨A, c, rfl, h1, h2, _⟩ := hv
  unfold maxLen at h2
  simp only at h1 HR HV
  clear hr
  by_cases hl : l.length < n
  · have hd : decide ((l.length : Int) < (n : Int)) = true := by simp; omega
    have HF : Hid (∀ w, InAt w i ⟨l, y⟩ → Calls Try.prog 56 #[.pointer (some ⟨i, 0, none⟩), .int .i64 3] w fun e w' => e = .returned (.tuple #[]) ∧ InAt w' i (St.fail ⟨l, y⟩ 3) ∧ w.grownBy w' (some i)) := fun w h => inFail_any w i _ 3 h
    obtain ⟨q, hq⟩ : ∃ q, q = St.fail ⟨l, y⟩ 3 := ⟨_, rfl⟩
    have hne : q.e ≠ 0 := by rw [hq]; unfold St.fail; split <;> simp_all
    have H1 : Hid (St.take ⟨l, y⟩ n = []) := by show _ = _; unfold St.take St.taken; rw [if_pos hl, ← hq, if_neg hne]
    have H2 : Hid (St.rest ⟨l, y⟩ n = q) := by show _ = _; unfold St.rest St.taken; rw [if_pos hl, ← hq, if_neg hne]
    rw [← hq] at HF
    obtain ⟨ql, qe⟩ := q
    simp only at hne
    have hd2 : decide (qe = 0) = false := by simp [hne]
    clear hq HR HV
    go_enter Try.func58, Try.ntmps58
    go_wp2_with fail
    refine (HF.out _ HH.out).mono ?_
    intro e w1 hh
    obtain ⟨he, hi, hg⟩ := hh
    subst he
    have HI := Lib.hid hi
    have HG := Lib.hid hg
    obtain ⟨v1, hr1, _, _⟩ := hi
    have d1 : w1.cell? ⟨i, 1, none⟩ = some (.int .i64 qe) := hr1.cell 1
    clear hr1 hg c0 c1 z0
    go_wp2
    go_ret
    exact ⟨_, rfl, by rw [H1.out]; exact Bs.nil _, by rw [H2.out]; exact HI.out, HG.out⟩
  · have hd : decide ((l.length : Int) < (n : Int)) = false := by simp; omega
    by_cases hy : y = 0
    · subst hy
      have H1 : Hid (St.take ⟨l, 0⟩ n = l.take n) := by show _ = _; unfold St.take St.taken; rw [if_neg hl, if_pos rfl]
      have H2 : Hid (St.rest ⟨l, 0⟩ n = ⟨l.drop n, 0⟩) := by show _ = _; unfold St.rest St.taken; rw [if_neg hl, if_pos rfl]
      have HC := Lib.hid (HV.out.cut n (by omega))
      have UC := Lib.hid (HU.out.cut (n' := l.length - n) (c' := c - n) n)
      have HT := Lib.hid (HV.out.fore n (by omega))
      have hb1 : (0 : Int) ≤ (n : Int) := by omega
      have hb2 : (n : Int) ≤ (c : Int) := by omega
      have hb3 : (n : Int) ≤ (l.length : Int) := by omega
      by_cases hck : c = n
      · subst hck
        rw [if_pos rfl, Nat.sub_self, show l.length - c = 0 by omega] at HC UC
        go_enter Try.func58, Try.ntmps58
        go_wp2
        go_ret
        exact ⟨_, rfl, by rw [H1.out]; exact HT.out.turn HR.out (no_u8 HV.out 0) (grown_setCell _ _ _ _), by rw [H2.out]; exact ⟨_, HR.out.fst _, HC.out.turn HR.out (no_u8 HV.out 0) (grown_setCell _ _ _ _), UC.out.turn HR.out (by decide) (grown_setCell _ _ _ _)⟩, grown_setCell _ _ _ _⟩
      · rw [if_neg hck] at HC UC
        go_enter Try.func58, Try.ntmps58
        go_wp2
        go_ret
        exact ⟨_, rfl, by rw [H1.out]; exact HT.out.turn HR.out (no_u8 HV.out 0) (grown_setCell _ _ _ _), by rw [H2.out]; exact ⟨_, HR.out.fst _, HC.out.turn HR.out (no_u8 HV.out 0) (grown_setCell _ _ _ _), UC.out.turn HR.out (by decide) (grown_setCell _ _ _ _)⟩, grown_setCell _ _ _ _⟩
    · have hd2 : decide (y = 0) = false := by simp [hy]
      have H1 : Hid (St.take ⟨l, y⟩ n = []) := by show _ = _; unfold St.take St.taken; rw [if_neg hl, if_neg hy]
      have H2 : Hid (St.rest ⟨l, y⟩ n = ⟨l, y⟩) := by show _ = _; unfold St.rest St.taken; rw [if_neg hl, if_neg hy]
      go_enter Try.func58, Try.ntmps58
      go_wp2
      go_ret
      exact ⟨_, rfl, by rw [H1.out]; exact Bs.nil _, by rw [H2.out]; exact HH.out, World.grownBy.refl _ _⟩

theorem isNum_two : isNum 2 = true := rfl
set_option maxHeartbeats 1000000 in
theorem inNumber_any (w : World) (i : Nat) (s : St) (z : Int) (h : InAt w i s) :
    Calls Try.prog 34 #[.pointer (some ⟨i, 0, none⟩), .int .i64 z] w fun e w' => e = .returned (.int .u64 (s.num z : Int)) ∧ InAt w' i (s.numS z) ∧ w.grownBy w' (some i) := by
  have HH := Lib.hid h
  have HZ : Hid (∀ w, Calls Try.prog 55 #[.int .i64 z] w (RetV w (.bool (isNum z)))) := fun w => isNumber_any w z
  clear h
  by_cases hz : isNum z = true
  · obtain ⟨n, rfl⟩ : ∃ n : Nat, z = n := by rcases inNum_shape z hz with h | h | h | h <;> subst h <;> exact ⟨_, rfl⟩
    have H1 : Hid (s.num n = ofHighB ((s.take n).take 8)) := by show _ = _; unfold St.num; rw [if_pos hz]; rfl
    have H2 : Hid (s.numS n = s.rest n) := by show _ = _; unfold St.numS; rw [if_pos hz]; rfl
    have HT : Hid (∀ w, InAt w i s → Calls Try.prog 58 #[.pointer (some ⟨i, 0, none⟩), .int .i64 (n : Int)] w fun e w' => ∃ v, e = .returned v ∧ Bs w' v (s.take n) ∧ InAt w' i (s.rest n) ∧ w.grownBy w' (some i)) := fun w h => inTake_any w i s n h
    rw [hz] at HZ
    clear hz
    go_enter Try.func34, Try.ntmps34
    go_wp2_with fail
    refine (HZ.out _).mono ?_
    intro e w1 hh
    obtain ⟨he, b1⟩ := hh
    subst he
    have HI1 := Lib.hid (HH.out.kept b1)
    have HG1 := Lib.hid (grown_any b1 (some i))
    clear b1
    go_wp2_with fail
    refine (HT.out _ HI1.out).mono ?_
    intro e w2 hh
    obtain ⟨v, he, hv, hi, hg⟩ := hh
    subst he
    have HI2 := Lib.hid hi
    have HG2 := Lib.hid (HG1.out.trans hg)
    have HV := Lib.hid hv
    obtain ⟨A, c, rfl, _, _, _⟩ := hv
    clear hi hg
    go_wp2_with fail
    refine (OfHigh_any _ _ _ HV.out).mono ?_
    intro e w3 hh
    obtain ⟨he, hw⟩ := hh
    subst he hw
    go_wp2
    go_ret
    exact ⟨by rw [H1.out]; rfl, by rw [H2.out]; exact HI2.out, HG2.out⟩
  · have hz : isNum z = false := by simpa using hz
    have H1 : Hid (s.num z = 0) := by show _ = _; unfold St.num; rw [hz]; rfl
    have H2 : Hid (s.numS z = s.fail 51) := by show _ = _; unfold St.numS; rw [hz]; rfl
    have HT : Hid (∀ w, InAt w i s → Calls Try.prog 56 #[.pointer (some ⟨i, 0, none⟩), .int .i64 51] w fun e w' => e = .returned (.tuple #[]) ∧ InAt w' i (s.fail 51) ∧ w.grownBy w' (some i)) := fun w h => inFail_any w i s 51 h
    rw [hz] at HZ
    clear hz
    go_enter Try.func34, Try.ntmps34
    go_wp2_with fail
    refine (HZ.out _).mono ?_
    intro e w1 hh
    obtain ⟨he, b1⟩ := hh
    subst he
    have HI1 := Lib.hid (HH.out.kept b1)
    have HG1 := Lib.hid (grown_any b1 (some i))
    clear b1
    go_wp2_with fail
    refine (HT.out _ HI1.out).mono ?_
    intro e w2 hh
    obtain ⟨he, hi, hg⟩ := hh
    subst he
    have HI2 := Lib.hid hi
    have HG2 := Lib.hid (HG1.out.trans hg)
    clear hi hg
    go_wp2
    go_ret
    exact ⟨by rw [H1.out]; rfl, by rw [H2.out]; exact HI2.out, HG2.out⟩

theorem ofHigh_lt (l : List UInt8) (n : Nat) (h : l.length ≤ n) : ofHighB l < 256 ^ n := Nat.lt_of_lt_of_le (ofHighB_lt l) (Nat.pow_le_pow_right (by omega) h)
theorem St.num_lt (s : St) : s.num 2 < 65536 := by
  unfold St.num
  rw [if_pos isNum_two]
  refine ofHigh_lt _ 2 ?_
  rw [List.length_take]
  have := s.take_length (2 : Int).toNat
  have e : (2 : Int).toNat = 2 := rfl
  omega
theorem St.cnt_lt (s : St) (m : Int) : s.cnt m < 65536 := by
  unfold St.cnt
  have := s.num_lt
  split <;> omega

set_option maxHeartbeats 1000000 in
theorem inCount_any (w : World) (i : Nat) (s : St) (m : Int) (h : InAt w i s) :
    Calls Try.prog 60 #[.pointer (some ⟨i, 0, none⟩), .int .i64 m] w fun e w' => e = .returned (.int .i64 (s.cnt m : Int)) ∧ InAt w' i (s.cntS m) ∧ w.grownBy w' (some i) := by
  have HH := Lib.hid h
  have hlt := s.num_lt
  have HN : Hid (∀ w, InAt w i s → Calls Try.prog 34 #[.pointer (some ⟨i, 0, none⟩), .int .i64 2] w fun e w' => e = .returned (.int .u64 (s.num 2 : Int)) ∧ InAt w' i (s.numS 2) ∧ w.grownBy w' (some i)) := fun w h => inNumber_any w i s 2 h
  have HF : Hid (∀ w, InAt w i (s.numS 2) → Calls Try.prog 56 #[.pointer (some ⟨i, 0, none⟩), .int .i64 2] w fun e w' => e = .returned (.tuple #[]) ∧ InAt w' i ((s.numS 2).fail 2) ∧ w.grownBy w' (some i)) := fun w h => inFail_any w i _ 2 h
  clear h
  obtain ⟨N, hN⟩ : ∃ N, N = s.num 2 := ⟨_, rfl⟩
  obtain ⟨S, hS⟩ : ∃ S, S = s.numS 2 := ⟨_, rfl⟩
  have hw : IntKind.i64.wrap (N : Int) = (N : Int) := IntWalk.i64_in _ (by omega)
  by_cases hm : (N : Int) > m
  · have H1 : Hid (s.cnt m = 0) := by show _ = _; unfold St.cnt; rw [← hN, if_pos hm]
    have H2 : Hid (s.cntS m = S.fail 2) := by show _ = _; unfold St.cntS; rw [← hN, if_pos hm, hS]
    rw [← hN] at HN
    rw [← hS] at HN HF
    clear hN hS hlt
    go_enter Try.func60, Try.ntmps60
    go_wp2_with fail
    refine (HN.out _ HH.out).mono ?_
    intro e w1 hh
    obtain ⟨he, hi, hg⟩ := hh
    subst he
    have HI1 := Lib.hid hi
    have HG1 := Lib.hid hg
    clear hi hg
    go_wp2_with fail
    refine (HF.out _ HI1.out).mono ?_
    intro e w2 hh
    obtain ⟨he, hi, hg⟩ := hh
    subst he
    have HI2 := Lib.hid hi
    have HG2 := Lib.hid (HG1.out.trans hg)
    clear hi hg
    go_wp2
    go_ret
    exact ⟨by rw [H1.out]; rfl, by rw [H2.out]; exact HI2.out, HG2.out⟩
  · have H1 : Hid (s.cnt m = N) := by show _ = _; unfold St.cnt; rw [← hN, if_neg hm]
    have H2 : Hid (s.cntS m = S) := by show _ = _; unfold St.cntS; rw [← hN, if_neg hm, hS]
    rw [← hN] at HN
    rw [← hS] at HN HF
    clear hN hS hlt
    go_enter Try.func60, Try.ntmps60
    go_wp2_with fail
    refine (HN.out _ HH.out).mono ?_
    intro e w1 hh
    obtain ⟨he, hi, hg⟩ := hh
    subst he
    have HI1 := Lib.hid hi
    have HG1 := Lib.hid hg
    clear hi hg
    go_wp2
    go_ret
    exact ⟨by rw [H1.out]; rfl, by rw [H2.out]; exact HI1.out, HG1.out⟩
end Go.Proofs.Ytmhhjdiilmgmoaa
end
section
namespace Go.Proofs.Ytmhhjdiilmgmoaa
open Go.RowKit
set_option linter.unusedVariables false
set_option maxRecDepth 20000

theorem Try.infoBy : (Try.prog.info? 5).map (fun i => (i.zero, i.size, i.bytes)) = some (some (.int .u8 0), 1, 1) := by kernel_rfl
set_option maxHeartbeats 1000000 in
theorem inBytes_any (w : World) (i : Nat) (s : St) (m : Int) (h : InAt w i s) :
    Calls Try.prog 36 #[.pointer (some ⟨i, 0, none⟩), .int .i64 m] w fun e w' => ∃ v, e = .returned v ∧ Bs w' v (s.byt m) ∧ U8At w' v ∧ InAt w' i (s.bytS m) ∧ w.grownBy w' (some i) := by
  have HH := Lib.hid h
  clear h
  obtain ⟨M, hM⟩ : ∃ M, M = min m 4000 := ⟨_, rfl⟩
  have HN : Hid (∀ w, InAt w i s → Calls Try.prog 60 #[.pointer (some ⟨i, 0, none⟩), .int .i64 M] w fun e w' => e = .returned (.int .i64 (s.cnt M : Int)) ∧ InAt w' i (s.cntS M) ∧ w.grownBy w' (some i)) := fun w h => inCount_any w i s M h
  obtain ⟨C, hC⟩ : ∃ C, C = s.cnt M := ⟨_, rfl⟩
  obtain ⟨S, hS⟩ : ∃ S, S = s.cntS M := ⟨_, rfl⟩
  have HT : Hid (∀ w, InAt w i S → Calls Try.prog 58 #[.pointer (some ⟨i, 0, none⟩), .int .i64 (C : Int)] w fun e w' => ∃ v, e = .returned v ∧ Bs w' v (S.take C) ∧ InAt w' i (S.rest C) ∧ w.grownBy w' (some i)) := fun w h => inTake_any w i S C h
  have H1 : Hid (s.byt m = S.take C) := by show _ = _; rw [hC, hS, hM]; rfl
  have H2 : Hid (s.bytS m = S.rest C) := by show _ = _; rw [hC, hS, hM]; rfl
  have HL : Hid ((S.take C).length ≤ 65536) := by
    have h1 := S.take_length C
    have h2 := s.cnt_lt M
    show _ ≤ _
    omega
  rw [← hC, ← hS] at HN
  clear hC hS
  have key : (¬ (4000 < m) ∧ M = m) ∨ (4000 < m ∧ M = 4000) := by omega
  clear hM
  rcases key with ⟨hm, rfl⟩ | ⟨hm, rfl⟩
  all_goals
    go_enter Try.func36, Try.ntmps36
    go_wp2_with fail
    refine (HN.out _ HH.out).mono ?_
    intro e w1 hh
    obtain ⟨he, hi, hg⟩ := hh
    subst he
    have HI1 := Lib.hid hi
    have HG1 := Lib.hid hg
    clear hi hg
    go_wp2_with fail
    refine (HT.out _ HI1.out).mono ?_
    intro e w2 hh
    obtain ⟨v, he, hv, hi, hg⟩ := hh
    subst he
    have HI2 := Lib.hid hi
    have HG2 := Lib.hid (HG1.out.trans hg)
    have HV := Lib.hid hv
    obtain ⟨A, c, rfl, _, _, _⟩ := hv
    clear hi hg
    have HO : Hid (OwnB w2 w2.heap.size 5 (.slice none 0 0) []) := OwnB.nil _ _ _
    go_wp2_with (at_builtin; go_loud (refine wpList_appB _ (o := ⟨some 13, _, _, _, _, _⟩) rfl (.const (.slice none 0 0)) (.tmp 12) 25 rfl w2 5 Try.infoBy Try.underlying25 _ _ [] _ rfl rfl HO.out HV.out (by have := HL.out; rw [List.length_nil]; omega) (Below.refl _ _) ?_); intro v6 w6 own6 b6)
    go_ret
    exact ⟨_, rfl, by rw [H1.out]; exact own6.bs, U8At.of own6, by rw [H2.out]; exact HI2.out.kept b6, HG2.out.trans (grown_any b6 _)⟩

/-- copy of a key, or of nothing, over a key's row. -/
theorem run_copyKey {P : Program} (w : World) (dT ty elem : TypeId) (hu : P.underlying dT = some (.slice elem)) (hs : (P.info? elem).map (·.size) = some 1) (g : Nat) (t : TypeId) (v : Value) (l : List UInt8) (hv : Bs w v l) (hl : l.length = 32 ∨ l = []) (hr : RowAt w g t (keyC zeroKey)) :
    ∃ n w', (Builtin.copy_ #[dT, dT] ty #[.slice (some ⟨g, 0, none⟩) 32 32, v]).run P w = .ok (goInt n) w' ∧ PutRow w g t (keyC (if l.length = 32 then l else zeroKey)) w' := by
  obtain ⟨A, c, rfl, h1, h2, h3⟩ := hv
  rcases hl with hl | rfl
  · obtain ⟨b, off, rfl, hc⟩ := h3 (by omega)
    have h := run_copy_row (P := P) w dT dT ty elem g 0 32 32 ⟨b, off, none⟩ l.length c (keyC zeroKey) t (cellsB l) hu hs hr (by rw [cellsB_length, hl]; rfl) (fun j x hx => by
      have hj := (List.getElem?_eq_some_iff.1 hx).1
      rw [cellsB_length] at hj
      rw [cellsB_get l j hj] at hx
      have hadd : (⟨b, off, none⟩ : Addr).add j = ⟨b, off + j, none⟩ := by unfold Addr.add; split <;> simp_all
      rw [hadd, hc j hj, hx]) (by rw [cellsB_length, hl, keyC_size, zeroKey_length]; omega) (cellsB_one l)
    have e : ((keyC zeroKey).toList.take 0 ++ cellsB l ++ (keyC zeroKey).toList.drop (0 + (cellsB l).length)).toArray = keyC l := by
      rw [List.drop_eq_nil_of_le (by rw [cellsB_length, hl, Array.length_toList, keyC_size, zeroKey_length]; omega)]
      simp [keyC]
    rw [e] at h
    rw [if_pos hl]
    exact ⟨_, _, h, setRow_put hr⟩
  · have e1 : (if ([] : List UInt8).length = 32 then [] else zeroKey) = zeroKey := rfl
    rw [e1]
    rcases A with _ | ad
    · obtain ⟨iz, hz, hsz⟩ := Option.map_eq_some_iff.1 hs
      refine ⟨0, w, ?_, ⟨hr, World.grownBy.refl _ _, rfl⟩⟩
      simp [Builtin.copy_, run_underlying hu, Builtin.lenOf, Builtin.firstCells, sizeOf, typeInfo, hz, storeCells]
    · have h := run_copy_row (P := P) w dT dT ty elem g 0 32 32 ad 0 c (keyC zeroKey) t [] hu hs hr rfl (fun j x hx => by cases hx) (by simp) (by simp)
      have e : ((keyC zeroKey).toList.take 0 ++ [] ++ (keyC zeroKey).toList.drop (0 + ([] : List Value).length)).toArray = keyC zeroKey := by simp
      rw [e] at h
      exact ⟨_, _, h, setRow_put hr⟩

set_option maxHeartbeats 1000000 in
theorem inEnd_any (w : World) (i : Nat) (s : St) (h : InAt w i s) :
    Calls Try.prog 38 #[.pointer (some ⟨i, 0, none⟩)] w fun e w' => e = .returned (.int .i64 s.fin) ∧ w = w' := by
  obtain ⟨l, y⟩ := s
  obtain ⟨v, hr, hv, _⟩ := h
  have c0 : w.cell? ⟨i, 0, none⟩ = some v := hr.cell 0
  have c1 : w.cell? ⟨i, 1, none⟩ = some (.int .i64 y) := hr.cell 1
  obtain ⟨A, c, rfl, _, _, _⟩ := hv
  clear hr
  simp only at c0 c1
  by_cases hy : y = 0
  · subst hy
    by_cases hl : l = []
    · subst hl
      have HF : Hid ((St.mk [] 0).fin = 0) := by show _ = _; unfold St.fin; rw [if_pos rfl, if_pos rfl]
      go_enter Try.func38, Try.ntmps38
      go_wp2
      go_ret
      exact ⟨by rw [HF.out]; rfl, rfl⟩
    · have hp : 0 < l.length := List.length_pos_iff.2 hl
      have hd : decide ((0 : Int) < (l.length : Int)) = true := by simp; omega
      have HF : Hid ((St.mk l 0).fin = 50) := by show _ = _; unfold St.fin; rw [if_pos rfl, if_neg hl]
      clear hl
      go_enter Try.func38, Try.ntmps38
      go_wp2
      go_ret
      exact ⟨by rw [HF.out]; rfl, rfl⟩
  · have hd : decide (y = 0) = false := by simp [hy]
    have HF : Hid ((St.mk l y).fin = y) := by show _ = _; unfold St.fin; rw [if_neg hy]
    go_enter Try.func38, Try.ntmps38
    go_wp2
    go_ret
    exact ⟨by rw [HF.out]; rfl, rfl⟩

set_option maxHeartbeats 1000000 in
theorem read_any (w : World) (v : Value) (l : List UInt8) (h : Bs w v l) (hl : l.length ≤ 140737488355000) :
    Calls Try.prog 33 #[v] w fun e w' => ∃ i, e = .returned (.pointer (some ⟨i, 0, none⟩)) ∧ w.heap.size ≤ i ∧ InAt w' i ⟨l, 0⟩ ∧ Below w.heap.size w w' := by
  have HC := Lib.hid (clone_any w v l h hl)
  obtain ⟨A, c, rfl, _, _, _⟩ := h
  go_enter Try.func33, Try.ntmps33
  go_wp2_with fail
  refine HC.out.mono ?_
  intro e w1 hh
  obtain ⟨v1, he, ho, b1⟩ := hh
  subst he
  have HO := Lib.hid ho
  have HB := Lib.hid b1
  obtain ⟨A1, c1, rfl, _, _⟩ := ho.shape
  clear ho b1
  go_wp2
  go_ret
  refine ⟨_, rfl, HB.out.size, ⟨_, RowAt.new w1 82 #[.slice A1 l.length c1, .int .i64 0], HO.out.bs.alloc _, (U8At.of HO.out).below (alloc_below _ _)⟩, below_size HB.out (alloc_below _ _)⟩
end Go.Proofs.Ytmhhjdiilmgmoaa
end
section
namespace Go.Proofs.Ytmhhjdiilmgmoaa
open Go.RowKit Go.Shelf
attribute [local go_sem] Oper.semAt_some
set_option linter.unusedVariables false
set_option maxRecDepth 20000

/-- What Chunk's function has captured: the bytes, and how many each time. -/
structure Cut (w : World) (b1 b2 : Nat) (A : Option Addr) (cap N : Nat) : Prop where
  list : Boxed w b1 25 (.slice A (32 * N) cap)
  size : Boxed w b2 3 (.int .i64 32)
def CutAt (b1 b2 : Nat) (k : Nat) : Prop := k = b1 ∨ k = b2
theorem Cut.kept {w w' : World} {b1 b2 cap N : Nat} {A : Option Addr} (h : Cut w b1 b2 A cap N) (hk : KeepsAt (CutAt b1 b2) w w') : Cut w' b1 b2 A cap N :=
  ⟨(hk b1 (.inl rfl)).trans h.list, (hk b2 (.inr rfl)).trans h.size⟩
theorem Cut.lt {w : World} {b1 b2 cap N : Nat} {A : Option Addr} (h : Cut w b1 b2 A cap N) : ∀ k, CutAt b1 b2 k → k < w.heap.size := by
  rintro k (rfl | rfl)
  · exact h.list.lt
  · exact h.size.lt
theorem Cut.below {w w' : World} {b1 b2 cap N : Nat} {A : Option Addr} (h : Cut w b1 b2 A cap N) (hb : Below w.heap.size w w') : Cut w' b1 b2 A cap N :=
  h.kept (KeepsAt.of_below hb h.lt)

theorem take_fin (N k : Nat) (h : k < N) : (List.finRange N).take (k + 1) = (List.finRange N).take k ++ [⟨k, h⟩] := by
  rw [List.take_succ_eq_append_getElem (by simpa using h)]
  simp

set_option maxHeartbeats 2000000 in
theorem chunk1_stops (n : Nat) (hn : 1 ≤ n) (b1 b2 b off cap N : Nat) (A : Option Addr) (hA : 0 < N → A = some ⟨b, off, none⟩) (hcap : 32 * N ≤ cap) (hmax : cap ≤ maxLen) (w : World) (env : Cut w b1 b2 A cap N) :
    SeqStopsK Fence.wide n Try.prog 69 #[.pointer (some ⟨b1, 0, none⟩), .pointer (some ⟨b2, 0, none⟩)]
      (fun x : Fin N => #[.slice (some ⟨b, off + 32 * x.val, none⟩) 32 32]) (KeepsAt (CutAt b1 b2)) (fun ys => ys = List.finRange N) (fun _ => True) N w := by
  intro l J Jx W hW hJ hJx hY h0
  unfold maxLen at hmax
  have env0 : Cut W b1 b2 A cap N := env.below hW
  have EV := Lib.hid env0
  have HJ := Lib.hid hJ
  have HY := Lib.hid hY
  obtain ⟨L, hL⟩ : ∃ L, L = 32 * N := ⟨_, rfl⟩
  rw [← hL] at hcap
  have HL := Lib.hid hL
  clear env env0 hW hJ hJx hY hL
  refine callsIn_of_wp Try.func69 rfl trivial ?_ rfl
  simp only [Try.ntmps69, List.size_toArray, List.length_cons, List.length_nil, Nat.reduceAdd, Nat.reduceSub, Array.replicate_succ, Array.replicate_zero, List.push_toArray, List.append_toArray, List.nil_append, List.cons_append]
  gi_wp2
  gi_loopw [4] (fun i wr => ∃ k p : Nat, k ≤ N ∧ Hid (p = 32 * k) ∧ i = .int .i64 p ∧ J ((List.finRange N).take k) wr ∧ Cut wr b1 b2 A cap N) (fun i _ => L - (intOf i).toNat)
  case atStart => exact ⟨0, 0, Nat.zero_le _, rfl, rfl, h0, EV.out⟩
  case round =>
    clear h0 EV
    obtain ⟨k, p, hk, HP, rfl, hJs, hev⟩ := hrel
    have hd1 := hev.list.cell
    have hd2 := hev.size.cell
    rw [← HL.out] at hd1
    have EV := Lib.hid hev
    have HJs := Lib.hid hJs
    clear hev hJs
    by_cases hlt : k < N
    · rw [hA (by omega)] at hd1
      obtain ⟨fn, tmps, assign, body, hy, hR⟩ := HY.out _ ⟨k, hlt⟩ wr.drew (HJ.out _ _ _ none HJs.out (grown_of_below (Below.refl _ _).drew) (fun r e => by cases e)) (by simp; omega)
      have hpl : p + 32 ≤ L := by have := HP.out; have := HL.out; omega
      have hne : ¬ cap = p := by omega
      have hlt2 : (p : Int) < (L : Int) := by omega
      dsimp only at hy
      have hoff : off + 32 * k = off + p := by have := HP.out; omega
      rw [hoff] at hy
      have hd3 : wr.drew.cell? ⟨b1, 0, none⟩ = some (.slice (some ⟨b, off, none⟩) L cap) := hd1
      have hd4 : wr.drew.cell? ⟨b2, 0, none⟩ = some (.int .i64 32) := hd2
      have hle1 : (p : Int) ≤ (L : Int) := by omega
      have hmin : (32 : Int) ≤ ((L - p : Nat) : Int) := by omega
      have hpl2 := hpl
      gi_wp2
      gi_region
      all_goals (
        have hmn : ¬ (((L - p : Nat) : Int) < 32) := by omega
        try simp only [if_neg hmn]
        gi_wp2
        refine hR.mono ?_
        rintro e W3 (⟨rfl, hJ3, hk3⟩ | ⟨rfl, hJx3⟩)
        · have EV3 := (EV.out.below (Below.refl _ _).drew).kept hk3
          have hd5 := EV3.size.cell
          gi_wp2
          go_roundw
          case rel => exact ⟨k + 1, p + 32, by omega, by have := HP.out; show p + 32 = _; omega, by go_num, by rw [take_fin N k hlt]; exact hJ3, EV3⟩
          case measure => simp [intOf]; omega
        · gi_wp2
          refine bodyPost_ret (results_none rfl _ _ _) rfl ?_
          exact ⟨⟨_, rfl⟩, .inr ⟨_, trivial, hJx3⟩⟩)
    · have hpl : p = L := by
        have h1 := HP.out
        have h2 := HL.out
        have h3 : k = N := by omega
        subst h3; omega
      have hge : ¬ (p : Int) < (L : Int) := by omega
      have hkN : (List.finRange N).take k = List.finRange N := List.take_of_length_le (by simp; omega)
      have HJ5 : Hid (J (List.finRange N) wr) := by rw [← hkN]; exact HJs
      gi_wp2
      go_end0
      exact ⟨⟨_, rfl⟩, .inl HJ5.out⟩

set_option maxHeartbeats 400000 in
theorem chunk_any (w : World) (A : Option Addr) (cap N : Nat) :
    Calls Try.prog 59 #[.slice A (32 * N) cap, .int .i64 32] w fun e w' => ∃ b1 b2 : Nat,
      e = .returned (.func (.func 69) #[] #[.pointer (some ⟨b1, 0, none⟩), .pointer (some ⟨b2, 0, none⟩)]) ∧ Cut w' b1 b2 A cap N ∧ (w.heap.size ≤ b1 ∧ w.heap.size ≤ b2) ∧ Below w.heap.size w w' := by
  go_enter Try.func59, Try.ntmps59
  go_wp2
  go_ret
  have bb : Below w.heap.size w (w.alloc (.cells #[.slice A (32 * N) cap] 25)) := (Below.refl _ _).alloc (Nat.le_refl _) _
  have h2 := Boxed.new (w.alloc (.cells #[.slice A (32 * N) cap] 25)) 3 (.int .i64 32)
  rw [World.size_alloc] at h2
  exact ⟨w.heap.size, w.heap.size + 1, rfl, ⟨(Boxed.new w 25 (.slice A (32 * N) cap)).alloc _, h2⟩, ⟨Nat.le_refl _, Nat.le_succ _⟩, bb.alloc bb.size _⟩
end Go.Proofs.Ytmhhjdiilmgmoaa
end
