/-
  Texts that belong together, merged: Env, Nats, FieldMath, FieldA. Conditions: as each theorem names them.
-/
import Derived.Test.YtpgjcmccfpjmoaaQLadAA
import Derived.Deep.MidRow
import Derived.IntWalk
import Derived.Laws.BitsAllLaws
import Derived.Stop.BytesEq
import Derived.Test.YtpgjcmccfpjmoaaChecked
import Derived.WalkKit
import Derived.LoopTactic
import Derived.RegionTactic
import Derived.Deep.QuietTactic
import Derived.BigQuiet
import Derived.Outline
import Derived.WalkSpells
import Derived.WalkLawsBesides
section
namespace Go.Proofs.Ytpgjcmccfpjmoaa
open Go.RowKit
set_option linter.unusedVariables false

/-- What the call has laid itself: each row lies there, no two in one block; and nothing that was there before has turned. -/
structure Env (w0 : World) (rs : List (Nat × TypeId × Array Value)) (w : World) : Prop where
  below : Below w0.heap.size w0 w
  rows : ∀ r ∈ rs, RowAt w r.1 r.2.1 r.2.2 ∧ w0.heap.size ≤ r.1
  apart : (rs.map (·.1)).Nodup

section
variable {w0 w w' : World} {rs : List (Nat × TypeId × Array Value)} {g : Nat} {t : TypeId} {cs old : Array Value}
theorem Env.start (w : World) : Env w [] w := ⟨Below.refl _ _, by simp, by simp⟩
theorem Env.row (h : Env w0 rs w) (i : Nat) (hi : rs[i]? = some (g, t, cs)) : RowAt w g t cs := (h.rows _ (List.mem_of_getElem? hi)).1
theorem Env.spot (h : Env w0 rs w) (i : Nat) (hi : rs[i]? = some (g, t, cs)) : w0.heap.size ≤ g := (h.rows _ (List.mem_of_getElem? hi)).2
theorem Env.new (h : Env w0 rs w) (n : NewRow w g t cs w') : Env w0 ((g, t, cs) :: rs) w' := by
  refine ⟨below_size h.below n.below, fun r hr => ?_, ?_⟩
  · rcases List.mem_cons.1 hr with rfl | hr
    · exact ⟨n.row, by have := n.spot; have := h.below.size; simp only; omega⟩
    · exact ⟨(h.rows r hr).1.kept n.below, (h.rows r hr).2⟩
  · refine List.nodup_cons.2 ⟨fun hm => ?_, h.apart⟩
    obtain ⟨r, hr, he⟩ := List.mem_map.1 hm
    have := (h.rows r hr).1.lt
    have := n.spot
    simp only at he
    omega
theorem Env.call (h : Env w0 rs w) (b : Below w.heap.size w w') : Env w0 rs w' := ⟨below_size h.below b, fun r hr => ⟨(h.rows r hr).1.kept b, (h.rows r hr).2⟩, h.apart⟩
theorem Env.drew (h : Env w0 rs w) : Env w0 rs w.drew := ⟨h.below.drew, h.rows, h.apart⟩
theorem Env.drewN (h : Env w0 rs w) (n : Nat) : Env w0 rs (w.drewN n) := ⟨below_drewN h.below n, h.rows, h.apart⟩
theorem set_map_fst {i : Nat} {x : Nat × TypeId × Array Value} (hi : rs[i]? = some (g, t, old)) (hx : x.1 = g) : (rs.set i x).map (·.1) = rs.map (·.1) := by
  rw [List.map_set, hx]
  apply List.ext_getElem? fun j => ?_
  rw [List.getElem?_set]
  split
  · rename_i h
    subst h
    have := (List.getElem?_eq_some_iff.1 hi).1
    rw [if_pos (by simpa using this), List.getElem?_map, hi]
    rfl
  · rfl
theorem nodup_at {α : Type} {l : List α} (h : l.Nodup) {i j : Nat} {a : α} (hi : l[i]? = some a) (hj : l[j]? = some a) : i = j := by
  obtain ⟨h1, e1⟩ := List.getElem?_eq_some_iff.1 hi
  obtain ⟨h2, e2⟩ := List.getElem?_eq_some_iff.1 hj
  exact (List.getElem_inj h).1 (e1.trans e2.symm)
/-- One row is written, by whatever leaves the other blocks alone. -/
theorem Env.turned (h : Env w0 rs w) (i : Nat) (hi : rs[i]? = some (g, t, old)) (hr : RowAt w' g t cs) (hg : w.grownBy w' (some g)) : Env w0 (rs.set i (g, t, cs)) w' := by
  refine ⟨h.below.grown hg h.below.size fun k hk => by injection hk with hk; subst hk; exact h.spot i hi, fun r hm => ?_, by rw [set_map_fst hi rfl]; exact h.apart⟩
  obtain ⟨j, hj⟩ := List.mem_iff_getElem?.1 hm
  rw [List.getElem?_set] at hj
  split at hj
  · split at hj
    · injection hj with hj; subst hj; exact ⟨hr, h.spot i hi⟩
    · cases hj
  · rename_i hne
    have hr' := h.rows r (List.mem_of_getElem? hj)
    refine ⟨hr'.1.grown hg fun he => ?_, hr'.2⟩
    injection he with he
    refine hne (nodup_at (l := rs.map (·.1)) h.apart (a := g) (by rw [List.getElem?_map, hi]; rfl) (by rw [List.getElem?_map, hj, ← he]; rfl))
theorem Env.put (h : Env w0 rs w) (i : Nat) (hi : rs[i]? = some (g, t, old)) (p : PutRow w g t cs w') : Env w0 (rs.set i (g, t, cs)) w' := h.turned i hi p.row p.grown
theorem grown_setCell (w : World) (g j : Nat) (u : Value) : w.grownBy (w.setCell ⟨g, j, none⟩ u) (some g) :=
  ⟨rfl, rfl, rfl, by simp, fun k hk hne => Below.heap_setCell w ⟨g, j, none⟩ u k (fun e => hne (by rw [e]))⟩
theorem Env.cell (h : Env w0 rs w) (i : Nat) (hi : rs[i]? = some (g, t, old)) (j : Nat) (u : Value) : Env w0 (rs.set i (g, t, old.setIfInBounds j u)) (w.setCell ⟨g, j, none⟩ u) :=
  h.turned i hi ((h.row i hi).put j u) (grown_setCell w g j u)
theorem Env.cellTo (h : Env w0 rs w) (i : Nat) (hi : rs[i]? = some (g, t, old)) (j : Nat) (u : Value) (he : old.setIfInBounds j u = cs) : Env w0 (rs.set i (g, t, cs)) (w.setCell ⟨g, j, none⟩ u) := he ▸ h.cell i hi j u
theorem Env.less (h : Env w0 rs w) {rs' : List (Nat × TypeId × Array Value)} (hs : rs'.Sublist rs) : Env w0 rs' w := ⟨h.below, fun r hr => h.rows r (hs.subset hr), List.Pairwise.sublist (hs.map _) h.apart⟩
/-- The newest row is written by what leaves all that is below it alone. -/
theorem Env.over (h : Env w0 ((g, t, old) :: rs) w) (hlt : ∀ r ∈ rs, r.1 < g) (hb : Below g w w') (hr : RowAt w' g t cs) : Env w0 ((g, t, cs) :: rs) w' := by
  have hs := h.spot 0 rfl
  refine ⟨h.below.trans (hb.mono hs), fun r hm => ?_, h.apart⟩
  rcases List.mem_cons.1 hm with rfl | hm
  · exact ⟨hr, hs⟩
  · have h2 := h.rows r (List.mem_cons_of_mem _ hm)
    exact ⟨h2.1.below hb (hlt r hm), h2.2⟩
theorem Env.ret (h : Env w0 rs w) (v : Value) : RetV w0 v (.returned v) w := ⟨rfl, h.below⟩
end

section
variable {P : Program} {w0 w : World} {rs : List (Nat × TypeId × Array Value)} {ops : Array Oper} {rest : List Oper} {o : Oper} {a : Act} {Q : Exit → Act → World → Prop}

theorem wpE_alloc (hgd : o.guard = none) (ty : TypeId) (ho : o.op = .alloc ty) (z : Array Value) (hz : (P.info? ty).map (·.zero) = some (some (.agg z))) (hE : Env w0 rs w)
    (h : ∀ g w', Env w0 ((g, ty, z) :: rs) w' → wpList P ops Q rest (a.put o.dst (.pointer (some ⟨g, 0, none⟩))) w') : wpList P ops Q (o :: rest) a w :=
  wpList_alloc_row hgd ty ho z hz fun g w' n => h g w' (hE.new n)
theorem wpE_allocF (hgd : o.guard = none) (ty : TypeId) (ho : o.op = .alloc ty) (z : Array Value) (hz : (P.info? ty).map (·.zero) = some (some (.agg z))) (hE : Env w0 rs w)
    (h : ∀ g w', Env w0 ((g, ty, z) :: rs) w' → (∀ r ∈ rs, r.1 < g) → wpList P ops Q rest (a.put o.dst (.pointer (some ⟨g, 0, none⟩))) w') : wpList P ops Q (o :: rest) a w :=
  wpList_alloc_row hgd ty ho z hz fun g w' n => h g w' (hE.new n) fun r hr => by rw [n.spot]; exact (hE.rows r hr).1.lt
theorem wpE_box (hgd : o.guard = none) (ty : TypeId) (x : Operand) (ho : o.op = .box ty x) (cs : Array Value) (hx : a.eval x = .agg cs) (hE : Env w0 rs w)
    (h : ∀ g w', Env w0 ((g, ty, cs) :: rs) w' → wpList P ops Q rest (a.put o.dst (.pointer (some ⟨g, 0, none⟩))) w') : wpList P ops Q (o :: rest) a w :=
  wpList_box_row hgd ty x ho cs hx fun g w' n => h g w' (hE.new n)
theorem wpE_load (hgd : o.guard = none) (ty : TypeId) (x : Operand) (ho : o.op = .load ty x) (i g : Nat) (t : TypeId) (cs : Array Value) (d : TypeDesc) (hi : rs[i]? = some (g, t, cs)) (hx : a.eval x = .pointer (some ⟨g, 0, none⟩))
    (hu : P.underlying ty = some d) (hd : (match d with | .struct _ | .array _ _ => true | _ => false) = true) (hs : (P.info? ty).map (·.size) = some cs.size) (hE : Env w0 rs w)
    (h : wpList P ops Q rest (a.put o.dst (.agg cs)) w) : wpList P ops Q (o :: rest) a w :=
  wpList_load_row hgd ty x ho g hx t cs (0, 0) d (hE.row i hi) hu hd hs h
theorem wpE_store (hgd : o.guard = none) (ty : TypeId) (x y : Operand) (ho : o.op = .store ty x y) (i g : Nat) (t : TypeId) (old cs : Array Value) (hi : rs[i]? = some (g, t, old)) (hx : a.eval x = .pointer (some ⟨g, 0, none⟩)) (hy : a.eval y = .agg cs)
    (hso : old.size = cs.size) (hs : (P.info? ty).map (·.size) = some cs.size) (h1 : ∀ u ∈ cs.toList, u.oneCell' = true) (hE : Env w0 rs w)
    (h : ∀ w', Env w0 (rs.set i (g, t, cs)) w' → wpList P ops Q rest (a.put o.dst undef) w') : wpList P ops Q (o :: rest) a w :=
  wpList_store_row hgd ty x y ho g t old cs hx hy (hE.row i hi) hso hs h1 fun w' p => h w' (hE.put i hi p)

/-- A part of a row, from its cell k on: read, and written. -/
theorem rangeAt_row {w : World} {g k n : Nat} {t : TypeId} {cs : Array Value} (hr : RowAt w g t cs) : w.rangeAt g k ((cs.toList.drop k).take n) := fun j v hv => by
  rw [hr.cell]
  rw [List.getElem?_take] at hv
  split at hv
  · rw [List.getElem?_drop] at hv
    simpa using hv
  · cases hv
theorem wpE_loadP (hgd : o.guard = none) (ty : TypeId) (x : Operand) (ho : o.op = .load ty x) (i g k : Nat) (t : TypeId) (cs : Array Value) (ps : List Value) (d : TypeDesc) (hi : rs[i]? = some (g, t, cs)) (hx : a.eval x = .pointer (some ⟨g, k, none⟩))
    (hp : (cs.toList.drop k).take ps.length = ps)
    (hu : P.underlying ty = some d) (hd : d.isRow = true) (hs : (P.info? ty).map (·.size) = some ps.length) (hE : Env w0 rs w)
    (h : wpList P ops Q rest (a.put o.dst (.agg ps.toArray)) w) : wpList P ops Q (o :: rest) a w :=
  wpList_load_mid hgd ty x ho g k hx ps d (by have := rangeAt_row (k := k) (n := ps.length) (hE.row i hi); rwa [hp] at this) hu hd hs h
theorem wpE_storeP (hgd : o.guard = none) (ty : TypeId) (x y : Operand) (ho : o.op = .store ty x y) (i g k : Nat) (t : TypeId) (old cs ps : Array Value) (hi : rs[i]? = some (g, t, old)) (hx : a.eval x = .pointer (some ⟨g, k, none⟩)) (hy : a.eval y = .agg ps)
    (hk : k + ps.size ≤ old.size) (hc : (old.toList.take k ++ ps.toList ++ old.toList.drop (k + ps.size)).toArray = cs) (hs : (P.info? ty).map (·.size) = some ps.size) (h1 : ∀ u ∈ ps.toList, u.oneCell' = true) (hE : Env w0 rs w)
    (h : ∀ w', Env w0 (rs.set i (g, t, cs)) w' → wpList P ops Q rest (a.put o.dst undef) w') : wpList P ops Q (o :: rest) a w := by
  refine wpList_plain hgd fun _ hK => ?_
  obtain ⟨f, hf, hz⟩ := Option.map_eq_some_iff.1 hs
  have hrun := run_storeCells_at (P := P) g k t ps.toList 0 old w (hE.row i hi) (by simpa using hk) h1
  have e : (old.toList.take (k + 0) ++ ps.toList ++ old.toList.drop (k + 0 + ps.toList.length)).toArray = cs := by rw [← hc, Nat.add_zero, Array.length_toList]
  rw [e] at hrun
  unfold Oper.wp execOp
  simp [ho, Instr.storeAt, Instr.sureAddr, storeVar, hx, hy, sizeOf, typeInfo, hf, hz, Value.cells, hrun]
  exact hK _ _ (h _ (hE.put i hi (setRow_put (hE.row i hi))))
end

/-! A region that draws its order: all but its last operations yield one value each wherever C holds; these are walked in the text's order. -/
section
variable {P : Program} {C : World → Prop} {ops : Array Oper}
theorem region_class_tail {id : Nat} {Q : Exit → Act → World → Prop} {a : Act} {w : World} {l : List Oper} (n : Nat) (C : World → Prop) (hC : C w.drew) (hm : P.follows .mixedOrders = true) (hB : Region.lexTailB .any l.toArray n = true)
    (h : wpQuiet P l.toArray C (fun a' => ∀ w', C w' → wpList P l.toArray Q (l.drop n) a' w') (l.take n) a) : (Code.region id l.toArray true).wp P Q a w := by
  simp only [Region.lexTailB, Bool.and_eq_true, decide_eq_true_eq] at hB
  obtain ⟨⟨⟨⟨hsel, hn⟩, hs⟩, hc⟩, hlex⟩ := hB
  have hn' : n < l.length := by simpa using hn
  have htl : (l.take n).length = n := by rw [List.length_take]; omega
  have hdl : (l.drop n).length = l.toArray.size - n := by simp
  have H := headQ_lex (md := .any) (g := l.toArray.size - n) hsel hs hc hn (l.take n) 0 (Array.replicate l.toArray.size false) a
    (fun j hj => by rw [htl] at hj; simp [hj]) (by rw [htl]; omega)
    ⟨by simp, fun j oj _ hl => (by rw [getD_replicate_false] at hl; cases hl), fun t _ ht => getD_in (by simpa using ht) (getD_replicate_false _ _)⟩ (by rw [htl]; exact hlex) h
  refine wp_region_any hm ?_
  have A := any_of_headQ (Q := Q) (g := l.toArray.size - n) (fun listed a' w' hw' hL => by
    have := wpAny_of_seq (md := .any) (Q' := Q) (l.drop n) n listed a' w' (fun j => by simp [List.getElem?_drop]) (by rw [hdl]; exact hL.1) (hL.2 w' hw')
    rwa [hdl] at this) (l.take n).length _ _ w.drew hC H
  rw [htl, show n + (l.toArray.size - n) = l.toArray.size by omega] at A
  exact A
theorem wp_assignE {o : Oper} {a : Act} {w : World} {K : Act → World → Prop} {Q : Exit → Act → World → Prop} (x : Operand) (ho : o.op = .assign x) (h : K (a.put o.dst (a.eval x)) w) : o.wp P a w K Q := by
  unfold Oper.wp execOp
  simp [ho]
  exact h
/-! The same, where behind the first n two operations are left that do not wait for one another, but for all the first ones. -/
def fullB (md : Region.Mode) (ops : Array Oper) (n : Nat) : Bool := (List.range ops.size).all fun j => decide (j < n) || (List.range n).all fun i => (ops[j]?).any fun oj => oj.after.any fun e => Region.binds md e && e.on == i
theorem fullB_spec {md : Region.Mode} {ops : Array Oper} {n i j : Nat} {oj : Oper} (h : fullB md ops n = true) (hj : ops[j]? = some oj) (hn : n ≤ j) (hi : i < n) : ∃ e ∈ oj.after, Region.binds md e = true ∧ e.on = i := by
  have h1 := List.all_eq_true.1 h j (List.mem_range.2 (Array.getElem?_eq_some_iff.1 hj).1)
  rw [decide_eq_false (by omega), Bool.false_or] at h1
  have h2 := List.all_eq_true.1 h1 i (List.mem_range.2 hi)
  rw [hj] at h2
  obtain ⟨e, he, hb⟩ := Array.any_eq_true'.1 h2
  simp only [Bool.and_eq_true, beq_iff_eq] at hb
  exact ⟨e, he, hb.1, hb.2⟩
def lexTo (md : Region.Mode) (ops : Array Oper) : Nat → Nat → Array Bool → Bool
  | 0, _, _ => true
  | f + 1, k, listed => (Region.ready md ops listed).contains k && Region.free md ops listed k && lexTo md ops f (k + 1) (listed.setIfInBounds k true)
def putTo : Nat → Nat → Array Bool → Array Bool
  | 0, _, listed => listed
  | f + 1, k, listed => putTo f (k + 1) (listed.setIfInBounds k true)
theorem headQ_firstF {md : Region.Mode} {n i : Nat} {oi : Oper} {v : Value} {L : Array Bool → Act → Prop} (hi : ops[i]? = some oi) (hsel : ∀ (j : Nat) (o : Oper) cs b, ops[j]? = some o → o.op ≠ .select cs b)
    (hfull : fullB md ops n = true) (hin : i < n) (hdone : ∀ listed a, L listed a → ∀ j ∈ Region.ready md ops listed, n ≤ j) (f : Nat) :
    ∀ (listed : Array Bool) (a : Act),
      (∀ j oj, ops[j]? = some oj → j ≠ i → listed.getD j true = false → (∀ e ∈ oj.after, Region.binds md e = true → e.on ≠ i) → oi.apart ops oj = true) →
      i ∈ Region.ready md ops listed → YieldsIn P ops C oi v a →
      headQ P md ops C n L f (listed.setIfInBounds i true) (a.put oi.dst v) → headQ P md ops C n L (f + 1) listed a := by
  have low : ∀ (listed : Array Bool), i ∈ Region.ready md ops listed → ∀ j ∈ Region.ready md ops listed, j < n := by
    intro listed hr j hj
    refine Nat.lt_of_not_le fun hge => ?_
    obtain ⟨hun, oj, hoj, hall⟩ := mem_ready.1 hj
    obtain ⟨e, he, hb, hon⟩ := fullB_spec hfull hoj hge hin
    have h1 := hall e he hb
    rw [hon, getD_both (mem_ready.1 hr).1] at h1
    cases h1
  induction f with
  | zero =>
    intro listed a _ hr hy H
    refine ⟨fun h0 => (by rw [h0] at hr; cases hr), fun j hj => ?_⟩
    have hlt := low listed hr j hj
    refine ⟨hlt, ?_⟩
    by_cases e : j = i
    · rw [e]; exact hy.qOp hi H
    · exact absurd hlt (Nat.not_lt.2 (hdone _ _ H j (ready_mono hj e)))
  | succ f ih =>
    intro listed a free hr hy H
    refine ⟨fun h0 => (by rw [h0] at hr; cases hr), fun j hj => ?_⟩
    have hlt := low listed hr j hj
    refine ⟨hlt, ?_⟩
    by_cases e : j = i
    · rw [e]; exact hy.qOp hi H
    · obtain ⟨hun, oj, hoj, hall⟩ := mem_ready.1 hj
      have hno : ∀ x ∈ oj.after, Region.binds md x = true → x.on ≠ i := fun x hx hb hon => by
        have h1 := hall x hx hb
        rw [hon, getD_both (mem_ready.1 hr).1] at h1
        cases h1
      have hboth := qOp_put hoj (free j oj hoj e hun hno) (fun cs b => hsel i oi cs b hi) (fun cs b => hsel j oj cs b hoj) hy (H.2 j (ready_mono hj e)).2
      refine qOp_mono (fun a' h3 => ?_) hboth
      refine ih _ a' (fun k ok hk hki hkun hkno => ?_) (ready_mono hr (Ne.symm e)) h3.1 ?_
      · refine free k ok hk hki ?_ hkno
        rcases Nat.decEq j k with hne | heq
        · rwa [getD_set_ne true hne] at hkun
        · rw [← heq]; exact hun
      · rw [Array.setIfInBounds_comm _ _ e]; exact h3.2
theorem headQ_lexF {md : Region.Mode} {n : Nat} {K : Act → Prop} (hsel : Region.noSelect ops = true) (hfull : fullB md ops n = true) (l : List Oper) :
    ∀ (k : Nat) (listed fin : Array Bool) (a : Act), (∀ j, j < l.length → l[j]? = ops[k + j]?) → k + l.length = n → fin = putTo l.length k listed → (∀ j ∈ Region.ready md ops fin, n ≤ j) →
    lexTo md ops l.length k listed = true → wpQuiet P ops C K l a →
    headQ P md ops C n (fun listed' a' => listed' = fin ∧ K a') l.length listed a := by
  induction l with
  | nil =>
    intro k listed fin a _ _ hf _ _ h
    exact ⟨hf.symm, h⟩
  | cons o l ih =>
    intro k listed fin a hl hk hf hd hB h
    simp only [List.length_cons, lexTo, Bool.and_eq_true] at hB hk
    have h0 : ops[k]? = some o := by simpa using (hl 0 (by simp)).symm
    have hst : qOp P ops C k (wpQuiet P ops C K l) a := by unfold qOp; simp only [h0]; exact h
    obtain ⟨v, hy, hK⟩ := yieldsIn_of_qOp h0 hst
    have hr : k ∈ Region.ready md ops listed := by simpa using hB.1.1
    refine headQ_firstF h0 (Region.noSelect_spec hsel) hfull (by omega) (fun listed' a' hL j hj => by rw [hL.1] at hj; exact hd j hj) l.length listed a (Region.free_spec h0 hB.1.2) hr hy ?_
    refine ih (k + 1) _ fin _ (fun j hj => ?_) (by omega) hf hd hB.2 hK
    have := hl (j + 1) (by simp; omega)
    simpa [Nat.add_assoc, Nat.add_comm 1 j] using this
/-- Two are left, in whichever order. -/
theorem any_pair {md : Region.Mode} {Q : Exit → Act → World → Prop} {i j : Nat} {oi oj : Oper} {listed : Array Bool} {a : Act} {w : World} (hi : ops[i]? = some oi) (hj : ops[j]? = some oj)
    (h0 : Region.ready md ops listed = [i, j]) (h1 : Region.ready md ops (listed.setIfInBounds i true) = [j]) (h2 : Region.ready md ops (listed.setIfInBounds j true) = [i])
    (h3 : Region.ready md ops ((listed.setIfInBounds i true).setIfInBounds j true) = []) (h4 : Region.ready md ops ((listed.setIfInBounds j true).setIfInBounds i true) = [])
    (hgi : oi.guard = none) (hgj : oj.guard = none)
    (ha : oi.wp P a w (fun a' w' => oj.wp P a' w' (Q .normal) Q) Q) (hb : oj.wp P a w (fun a' w' => oi.wp P a' w' (Q .normal) Q) Q) : wpAny P md ops Q 2 listed a w := by
  have wi : ∀ a : Act, Region.wanted oi (yielded ops a.tmps) = true := fun a => by simp [Region.wanted, hgi]
  have wj : ∀ a : Act, Region.wanted oj (yielded ops a.tmps) = true := fun a => by simp [Region.wanted, hgj]
  refine ⟨fun h => (by rw [h0] at h; cases h), fun k hk => ?_⟩
  rw [h0] at hk
  rcases List.mem_cons.1 hk with rfl | hk
  · unfold wpOp
    simp only [hi, wi, if_true]
    refine .inl (Oper.wp_mono (fun a' w' hw => ?_) ha)
    refine ⟨fun h => (by rw [h1] at h; cases h), fun k hk => ?_⟩
    rw [h1] at hk
    obtain rfl : k = j := by simpa using hk
    unfold wpOp
    simp only [hj, wj, if_true]
    exact .inl (Oper.wp_mono (fun a' w' hw => ⟨h3, hw⟩) hw)
  · obtain rfl : k = j := by simpa using hk
    unfold wpOp
    simp only [hj, wj, if_true]
    refine .inl (Oper.wp_mono (fun a' w' hw => ?_) hb)
    refine ⟨fun h => (by rw [h2] at h; cases h), fun k' hk' => ?_⟩
    rw [h2] at hk'
    obtain rfl : k' = i := by simpa using hk'
    unfold wpOp
    simp only [hi, wi, if_true]
    exact .inl (Oper.wp_mono (fun a' w' hw => ⟨h4, hw⟩) hw)
theorem region_class_pair {id : Nat} {Q : Exit → Act → World → Prop} {a : Act} {w : World} {l : List Oper} {oi oj : Oper} (n : Nat) (C : World → Prop) (hC : C w.drew) (hm : P.follows .mixedOrders = true)
    (hB : (Region.noSelect l.toArray && fullB .any l.toArray n && lexTo .any l.toArray n 0 (Array.replicate l.toArray.size false) && decide (l.toArray.size = n + 2)) = true)
    (h0 : Region.ready .any l.toArray (putTo n 0 (Array.replicate l.toArray.size false)) = [n, n + 1]) (h1 : Region.ready .any l.toArray ((putTo n 0 (Array.replicate l.toArray.size false)).setIfInBounds n true) = [n + 1]) (h2 : Region.ready .any l.toArray ((putTo n 0 (Array.replicate l.toArray.size false)).setIfInBounds (n + 1) true) = [n])
    (h3 : Region.ready .any l.toArray (((putTo n 0 (Array.replicate l.toArray.size false)).setIfInBounds n true).setIfInBounds (n + 1) true) = []) (h4 : Region.ready .any l.toArray (((putTo n 0 (Array.replicate l.toArray.size false)).setIfInBounds (n + 1) true).setIfInBounds n true) = [])
    (hi : l.toArray[n]? = some oi) (hj : l.toArray[n + 1]? = some oj) (hgi : oi.guard = none) (hgj : oj.guard = none)
    (h : wpQuiet P l.toArray C (fun a' => ∀ w', C w' → oi.wp P a' w' (fun a' w' => oj.wp P a' w' (Q .normal) Q) Q ∧ oj.wp P a' w' (fun a' w' => oi.wp P a' w' (Q .normal) Q) Q) (l.take n) a) : (Code.region id l.toArray true).wp P Q a w := by
  simp only [Bool.and_eq_true, decide_eq_true_eq] at hB
  obtain ⟨⟨⟨hsel, hfull⟩, hlex⟩, hsz⟩ := hB
  have hsz' : l.length = n + 2 := by simpa using hsz
  have htl : (l.take n).length = n := by rw [List.length_take]; omega
  have H := headQ_lexF (md := .any) hsel hfull (l.take n) 0 (Array.replicate l.toArray.size false) _ a (fun j hj => by rw [htl] at hj; simp [hj]) (by rw [htl]; omega) rfl (by
    rw [htl, h0]
    intro j hj
    simp only [List.mem_cons, List.not_mem_nil, or_false] at hj
    omega) (by rw [htl]; exact hlex) h
  refine wp_region_any hm ?_
  have A := any_of_headQ (Q := Q) (g := 2) (fun listed a' w' hw' hL => by
    obtain ⟨hl, hK⟩ := hL
    rw [htl] at hl
    subst hl
    exact any_pair hi hj h0 h1 h2 h3 h4 hgi hgj (hK w' hw').1 (hK w' hw').2) (l.take n).length _ _ w.drew hC H
  rw [htl, ← hsz] at A
  exact A
theorem region_class {id : Nat} {Q : Exit → Act → World → Prop} {a : Act} {w : World} {l : List Oper} (C : World → Prop) (hC : C w.drew) (hm : P.follows .mixedOrders = true) (hB : Region.lexB .any l.toArray = true)
    (h : wpQuiet P l.toArray C (fun a' => ∀ w', C w' → Q .normal a' w') l a) : (Code.region id l.toArray true).wp P Q a w := by
  exact wp_region_quiet (C := C) hm hB hC (by simpa using h)

variable {rest : List Oper} {o : Oper} {a : Act} {K : Act → Prop}
theorem q_step (hw : Region.wanted o (yielded ops a.tmps) = true) {v : Value} (hv : ∀ w, C w → o.quietAt P a C w v) (h : wpQuiet P ops C K rest (a.put o.dst v)) : wpQuiet P ops C K (o :: rest) a := by
  refine wpQuiet_step fun K' hK => ?_
  rw [if_pos hw]
  exact ⟨v, hv, hK _ h⟩
theorem q_skip (hw : Region.wanted o (yielded ops a.tmps) = false) (h : wpQuiet P ops C K rest (a.put o.dst undef)) : wpQuiet P ops C K (o :: rest) a := by
  refine wpQuiet_step fun K' hK => ?_
  rw [hw]
  exact hK _ h
/-- It yields v and leaves the world. -/
theorem q_run (hw : Region.wanted o (yielded ops a.tmps) = true) {v : Value} (hv : ∀ w, C w → (execOp a.eval o).run P w = .ok (.value v) w) (h : wpQuiet P ops C K rest (a.put o.dst v)) : wpQuiet P ops C K (o :: rest) a :=
  q_step hw (fun w hC => by unfold Oper.quietAt; rw [hv w hC]; exact ⟨rfl, rfl⟩) h
theorem q_call (hw : Region.wanted o (yielded ops a.tmps) = true) {v : Value} (f : FuncId) (args : Array Value) (hr : ∀ w, (execOp a.eval o).run P w = .ok (.enter f args) w)
    (hv : ∀ w, C w → Calls P f args w fun e w' => e = .returned v ∧ C w') (h : wpQuiet P ops C K rest (a.put o.dst v)) : wpQuiet P ops C K (o :: rest) a :=
  q_step hw (fun w hC => by unfold Oper.quietAt; rw [hr w]; exact ⟨rfl, hv w hC⟩) h
variable {w0 : World} {rs : List (Nat × TypeId × Array Value)}
theorem qE_load (hw : Region.wanted o (yielded ops a.tmps) = true) (ty : TypeId) (x : Operand) (ho : o.op = .load ty x) (i g : Nat) (t : TypeId) (cs : Array Value) (d : TypeDesc) (hi : rs[i]? = some (g, t, cs)) (hx : a.eval x = .pointer (some ⟨g, 0, none⟩))
    (hu : P.underlying ty = some d) (hd : (match d with | .struct _ | .array _ _ => true | _ => false) = true) (hs : (P.info? ty).map (·.size) = some cs.size)
    (h : wpQuiet P ops (Env w0 rs) K rest (a.put o.dst (.agg cs))) : wpQuiet P ops (Env w0 rs) K (o :: rest) a :=
  q_run hw (fun w hE => run_load_row ty x ho g hx t cs (0, 0) d (hE.row i hi) hu hd hs) h
/-- What lies there already is stored once more. -/
theorem qE_same (hw : Region.wanted o (yielded ops a.tmps) = true) (ty : TypeId) (x y : Operand) (ho : o.op = .store ty x y) (i g : Nat) (t : TypeId) (cs : Array Value) (hi : rs[i]? = some (g, t, cs)) (hx : a.eval x = .pointer (some ⟨g, 0, none⟩)) (hy : a.eval y = .agg cs)
    (hs : (P.info? ty).map (·.size) = some cs.size) (h1 : ∀ u ∈ cs.toList, u.oneCell' = true)
    (h : wpQuiet P ops (Env w0 rs) K rest (a.put o.dst undef)) : wpQuiet P ops (Env w0 rs) K (o :: rest) a := by
  refine q_step hw (v := undef) (fun w hE => ?_) h
  obtain ⟨f, hf, hz⟩ := Option.map_eq_some_iff.1 hs
  have hg := hE.row i hi
  have hrun := run_storeCells_at (P := P) g 0 t cs.toList 0 cs w hg (by simp) h1
  have he : (cs.toList.take (0 + 0) ++ cs.toList ++ cs.toList.drop (0 + 0 + cs.toList.length)).toArray = cs := by
    rw [List.drop_eq_nil_of_le (by simp)]
    simp
  rw [he, setRow_self w g cs t (0, 0) hg] at hrun
  unfold Oper.quietAt execOp
  simp [ho, Instr.storeAt, Instr.sureAddr, storeVar, hx, hy, sizeOf, typeInfo, hf, hz, Value.cells, hrun, Oper.quietUpon]
/-- A call whose contract is 'it came back with v; what was there is as it was'. -/
theorem Env.calls {f : FuncId} {args : Array Value} {w : World} {v : Value} (hE : Env w0 rs w) (h : Calls P f args w (RetV w v)) : Calls P f args w fun e w' => e = .returned v ∧ Env w0 rs w' := h.mono fun e w' ⟨he, hb⟩ => ⟨he, hE.call hb⟩
theorem Env.callsQ {f : FuncId} {args : Array Value} {w : World} {v : Value} (hE : Env w0 rs w) (h : Calls P f args w fun e w' => e = .returned v ∧ w = w') : Calls P f args w fun e w' => e = .returned v ∧ Env w0 rs w' := h.mono fun e w' ⟨he, hb⟩ => ⟨he, hb ▸ hE⟩
end
end Go.Proofs.Ytpgjcmccfpjmoaa
end
section
namespace Go.Proofs.Ytpgjcmccfpjmoaa
open Go.RowKit
set_option linter.unusedVariables false

def cellsN (l : List Nat) : List Value := l.map fun x : Nat => Value.int .u64 (x : Int)
def natsC (l : List Nat) : Array Value := (cellsN l).toArray
theorem cellsN_length (l : List Nat) : (cellsN l).length = l.length := by simp [cellsN]
theorem natsC_size (l : List Nat) : (natsC l).size = l.length := by simp [natsC, cellsN]
theorem natsC_list (l : List Nat) : (natsC l).toList = cellsN l := rfl
theorem natsC_one (l : List Nat) : ∀ u ∈ (natsC l).toList, u.oneCell' = true := by
  intro u hu
  obtain ⟨b, _, rfl⟩ := List.mem_map.1 (show u ∈ cellsN l from hu)
  rfl
theorem natsC_get (l : List Nat) (j : Nat) (h : j < l.length) : (natsC l)[j]? = some (.int .u64 ((l.getD j 0 : Nat) : Int)) := by
  simp [natsC, cellsN, h]
theorem natsC_cell {w : World} {g : Nat} {t : TypeId} {l : List Nat} (h : RowAt w g t (natsC l)) (j : Nat) (hj : j < l.length) : w.cell? ⟨g, j, none⟩ = some (.int .u64 ((l.getD j 0 : Nat) : Int)) := by
  rw [h.cell, natsC_get l j hj]
theorem natsC_put (l : List Nat) (j x : Nat) : (natsC l).setIfInBounds j (.int .u64 (x : Int)) = natsC (l.set j x) := by
  apply Array.toList_inj.1
  simp [natsC, cellsN, List.map_set]
theorem natsC_same {a b : List Nat} {n : Nat} (ha : a.length = n) (hb : b.length = n) : (natsC a).size = (natsC b).size := by rw [natsC_size, natsC_size, ha, hb]
theorem sizeN {P : Program} {t : TypeId} {n : Nat} (hs : (P.info? t).map (·.size) = some n) (l : List Nat) (h : l.length = n) : (P.info? t).map (·.size) = some (natsC l).size := by rw [natsC_size, h, hs]
theorem Env.cellN {w0 w : World} {rs : List (Nat × TypeId × Array Value)} {g : Nat} {t : TypeId} {l : List Nat} (h : Env w0 rs w) (i : Nat) (hi : rs[i]? = some (g, t, natsC l)) (j x : Nat) :
    Env w0 (rs.set i (g, t, natsC (l.set j x))) (w.setCell ⟨g, j, none⟩ (.int .u64 (x : Int))) := h.cellTo i hi j _ (natsC_put l j x)
theorem Env.getN {w0 w : World} {rs : List (Nat × TypeId × Array Value)} {g : Nat} {t : TypeId} {l : List Nat} (h : Env w0 rs w) (i : Nat) (hi : rs[i]? = some (g, t, natsC l)) (j : Nat) (hj : j < l.length) :
    w.cell? ⟨g, j, none⟩ = some (.int .u64 ((l.getD j 0 : Nat) : Int)) := natsC_cell (h.row i hi) j hj
theorem Env.fzN {w0 w : World} {rs : List (Nat × TypeId × Array Value)} {g : Nat} {t : TypeId} {cs : Array Value} (h : Env w0 rs w) (i : Nat) (hi : rs[i]? = some (g, t, cs)) (j : Nat) :
    w.frozen? ⟨g, j, none⟩ = false := (h.row i hi).frozen j

theorem getD_lt {l : List Nat} {B : Nat} (h : ∀ x ∈ l, x < B) (hB : 0 < B) (j : Nat) : l.getD j 0 < B := by
  rw [List.getD_eq_getElem?_getD]
  cases hc : l[j]? with
  | none => simpa using hB
  | some x => simpa using h x (List.mem_of_getElem? hc)
theorem all_set {l : List Nat} {B : Nat} (h : ∀ x ∈ l, x < B) (j y : Nat) (hy : y < B) : ∀ x ∈ l.set j y, x < B := by
  intro x hx
  rcases List.mem_or_eq_of_mem_set hx with hx | rfl
  · exact h x hx
  · exact hy

/-! What the walk's terms come to. -/
theorem wrap64 (n : Nat) (h : n < 18446744073709551616) : IntKind.u64.wrap (n : Int) = (n : Int) := by rw [IntKind.wrap_u64]; omega
theorem and51 (n : Nat) (h : n < 18446744073709551616) : bits .and .u64 (n : Int) 2251799813685247 = ((n % 2251799813685248 : Nat) : Int) := by
  have := u64_and_nat n 2251799813685247 h (by omega)
  rw [show ((2251799813685247 : Nat) : Int) = 2251799813685247 from rfl] at this
  rw [this]
  congr 1
  exact Nat.and_two_pow_sub_one_eq_mod n 51
theorem or_add (a b s : Nat) (ha : a < 2 ^ s) (hb : b % 2 ^ s = 0) : a ||| b = a + b := by
  have e : b = 2 ^ s * (b / 2 ^ s) := by have := Nat.div_add_mod b (2 ^ s); omega
  rw [e, Nat.or_comm, ← Nat.two_pow_add_eq_or_of_lt ha, Nat.add_comm]
theorem or64 (a b s : Nat) (ha : a < 2 ^ s) (hb : b % 2 ^ s = 0) (h1 : a < 18446744073709551616) (h2 : b < 18446744073709551616) : bits .or .u64 (a : Int) (b : Int) = ((a + b : Nat) : Int) := by
  rw [u64_or_nat a b h1 h2, or_add a b s ha hb]
theorem or64r (a b s : Nat) (ha : a < 2 ^ s) (hb : b % 2 ^ s = 0) (h1 : a < 18446744073709551616) (h2 : b < 18446744073709551616) : bits .or .u64 (b : Int) (a : Int) = ((a + b : Nat) : Int) := by
  rw [u64_or_nat b a h2 h1, Nat.or_comm, or_add a b s ha hb]

/-- Arrays of words held against one another. -/
theorem rangeN_all (a b : List Nat) (h : a.length = b.length) : ((List.range a.length).all fun i => a.getD i 0 == b.getD i 0) = (a == b) := by
  rw [Bool.eq_iff_iff, List.all_eq_true, beq_iff_eq]
  constructor
  · intro hall
    apply List.ext_getElem h
    intro i h1 h2
    have := hall i (List.mem_range.2 h1)
    simpa [h1, h2] using this
  · rintro rfl i _
    exact beq_self_eq_true _
theorem nats_eqIn {P : Program} (w : World) (d : Nat) (t e : TypeId) (n : Nat) (ht : P.underlying t = some (.array n e)) (he : P.underlying e = some (.int .u64)) (hs : ∀ w, (sizeOf e).run P w = .ok 1 w)
    (a b : List Nat) (ha : a.length = n) (hb : b.length = n) : (Op.equalIn (d + 2) t (.agg (natsC a)) (.agg (natsC b))).run P w = .ok (a == b) w := by
  rw [← rangeN_all a b (ha.trans hb.symm), ha, List.range_eq_range', Op.equalIn]
  simp only [Sem.run_bind, run_underlying ht, Result.andThen_ok, hs, Std.Legacy.Range.forIn_eq_forIn_range', Std.Legacy.Range.size, Nat.sub_zero, Nat.add_sub_cancel, Nat.div_one]
  have hin : ∀ i ∈ List.range' 0 n 1, i < n := fun i hi => by
    have := (List.mem_range'_1.1 hi).2
    omega
  generalize List.range' 0 n 1 = r at hin ⊢
  induction r with
  | nil => simp
  | cons i r ih =>
    have hi : i < n := hin i (by simp)
    have at_ : ∀ l : List Nat, l.length = n → (part e (natsC l) (i * 1)).run P w = .ok (.int .u64 ((l.getD i 0 : Nat) : Int)) w := fun l hl => by
      simp [part, isAgg, run_underlying he, natsC_get l i (by omega)]
    have one : (Op.equalIn (d + 1) e (.int .u64 ((a.getD i 0 : Nat) : Int)) (.int .u64 ((b.getD i 0 : Nat) : Int))).run P w = .ok (a.getD i 0 == b.getD i 0) w := by
      rw [run_equalIn_int w d e .u64 .u64 _ _ he]
      congr 1
      rw [Bool.eq_iff_iff, beq_iff_eq, beq_iff_eq]
      omega
    simp only [List.forIn_cons, Sem.run_bind, at_ a ha, at_ b hb, one, Result.andThen_ok, List.all_cons]
    cases hc : (a.getD i 0 == b.getD i 0)
    · simp
    · simp only [Bool.not_true, Bool.false_eq_true, if_false, Sem.run_pure, Result.andThen_ok, Bool.true_and]
      exact ih fun j hj => hin j (List.mem_cons_of_mem _ hj)
/-- 'x[i]' of an array of words by value. -/
theorem run_indexN {P : Program} (w : World) (t e : TypeId) (n : Nat) (l : List Nat) (i : Nat) (ht : P.underlying t = some (.array n e)) (he : P.underlying e = some (.int .u64)) (hs : (P.info? e).map (·.size) = some 1) (hl : l.length = n) (hi : i < n) :
    (Instr.index t (.agg (natsC l)) (.int .i64 (i : Int))).run P w = .ok (.int .u64 ((l.getD i 0 : Nat) : Int)) w := by
  obtain ⟨f, hf, hz⟩ := Option.map_eq_some_iff.1 hs
  simp [Instr.index, run_underlying ht, asIntOf, hi, part, isAgg, run_underlying he, sizeOf, typeInfo, hf, hz, natsC_get l i (by omega), go_sem]
/-- 'x[i]' of an array of structs of m cells, by value. -/
theorem run_index_struct {P : Program} (w : World) (t e : TypeId) (n m : Nat) (fs : Array Field) (cs : Array Value) (kd : IntKind) (i : Nat) (ht : P.underlying t = some (.array n e)) (he : P.underlying e = some (.struct fs)) (hs : (P.info? e).map (·.size) = some m) (hi : i < n) :
    (Instr.index t (.agg cs) (.int kd (i : Int))).run P w = .ok (.agg (cs.extract (i * m) (i * m + m))) w := by
  obtain ⟨f, hf, hz⟩ := Option.map_eq_some_iff.1 hs
  simp [Instr.index, run_underlying ht, asIntOf, hi, part, isAgg, run_underlying he, sizeOf, typeInfo, hf, hz, go_sem]
/-! A struct that is made of one part, as long as the whole. -/
theorem fill_list (l : List Value) : ∀ (k : Nat) (acc : Array Value), acc.size = k + l.length → (l.zipIdx k).foldl (fun cs x => cs.setIfInBounds (0 + x.2) x.1) acc = (acc.toList.take k ++ l).toArray := by
  induction l with
  | nil => intro k acc h; simp only [List.zipIdx_nil, List.foldl_nil]; rw [List.take_of_length_le (by simp at h; simp; omega)]; simp
  | cons c l ih =>
    intro k acc h
    simp only [List.length_cons] at h
    simp only [List.zipIdx_cons, List.foldl_cons]
    rw [ih (k + 1) _ (by simp; omega)]
    congr 1
    simp only [Array.toList_setIfInBounds, Nat.zero_add]
    rw [List.take_succ_eq_append_getElem (by simp; omega)]
    simp [List.take_set_of_le]
theorem fill_whole (z cs : Array Value) (h : z.size = cs.size) : cs.zipIdx.foldl (fun acc x => acc.setIfInBounds (0 + x.2) x.1) z = cs := by
  rw [← Array.foldl_toList, Array.toList_zipIdx, fill_list cs.toList 0 z (by simpa using h)]
  simp
theorem run_build1 {P : Program} (w : World) (t : TypeId) (f : Field) (n : Nat) (z cs : Array Value) (hu : P.underlying t = some (.struct #[f])) (h0 : f.offset = 0) (hs : (P.info? f.type).map (·.size) = some n) (hz : (P.info? t).map (·.zero) = some (some (.agg z))) (hzn : z.size = n) (hc : cs.size = n) :
    (Instr.build t #[(0, .agg cs)]).run P w = .ok (.agg cs) w := by
  obtain ⟨i, hi, hi2⟩ := Option.map_eq_some_iff.1 hs
  obtain ⟨j, hj, hj2⟩ := Option.map_eq_some_iff.1 hz
  have hf := fill_whole z cs (by omega)
  simp [Instr.build, zeroValue, typeInfo, hj, hj2, run_underlying hu, sizeOf, hi, hi2, Instr.fill, Value.cells, h0, hzn, hc, go_sem]
  simpa [hc] using hf
section
variable {P : Program} {w : World} {ops : Array Oper} {rest : List Oper} {o : Oper} {a : Act} {Q : Exit → Act → World → Prop}
theorem wpList_build1 (hgd : o.guard = none) (t : TypeId) (x : Operand) (ho : o.op = .build t #[(0, x)]) (cs : Array Value) (hx : a.eval x = .agg cs) (f : Field) (n : Nat) (z : Array Value) (hu : P.underlying t = some (.struct #[f])) (h0 : f.offset = 0) (hs : (P.info? f.type).map (·.size) = some n) (hz : (P.info? t).map (·.zero) = some (some (.agg z))) (hzn : z.size = n) (hc : cs.size = n)
    (h : wpList P ops Q rest (a.put o.dst (.agg cs)) w) : wpList P ops Q (o :: rest) a w := by
  refine wpList_plain hgd fun _ hK => ?_
  unfold Oper.wp execOp
  simp [ho, hx, run_build1 w t f n z cs hu h0 hs hz hzn hc]
  exact hK _ _ h
variable {w0 : World} {rs : List (Nat × TypeId × Array Value)}
theorem wpE_loadN (hgd : o.guard = none) (ty : TypeId) (x : Operand) (ho : o.op = .load ty x) (i g k : Nat) (t : TypeId) (l m : List Nat) (d : TypeDesc) (hi : rs[i]? = some (g, t, natsC l)) (hx : a.eval x = .pointer (some ⟨g, k, none⟩))
    (hp : (l.drop k).take m.length = m)
    (hu : P.underlying ty = some d) (hd : d.isRow = true) (hs : (P.info? ty).map (·.size) = some m.length) (hE : Env w0 rs w)
    (h : wpList P ops Q rest (a.put o.dst (.agg (natsC m))) w) : wpList P ops Q (o :: rest) a w :=
  wpE_loadP hgd ty x ho i g k t (natsC l) (cellsN m) d hi hx (by rw [cellsN_length, natsC_list]; unfold cellsN; rw [← List.map_drop, ← List.map_take, hp]) hu hd (by rw [cellsN_length, hs]) hE h
theorem wpE_storeN (hgd : o.guard = none) (ty : TypeId) (x y : Operand) (ho : o.op = .store ty x y) (i g k : Nat) (t : TypeId) (l m l' : List Nat) (hi : rs[i]? = some (g, t, natsC l)) (hx : a.eval x = .pointer (some ⟨g, k, none⟩)) (hy : a.eval y = .agg (natsC m))
    (hk : k + m.length ≤ l.length) (hc : l.take k ++ m ++ l.drop (k + m.length) = l') (hs : (P.info? ty).map (·.size) = some m.length) (hE : Env w0 rs w)
    (h : ∀ w', Env w0 (rs.set i (g, t, natsC l')) w' → wpList P ops Q rest (a.put o.dst undef) w') : wpList P ops Q (o :: rest) a w :=
  wpE_storeP hgd ty x y ho i g k t (natsC l) (natsC l') (natsC m) hi hx hy (by rw [natsC_size, natsC_size]; exact hk) (by rw [← hc, natsC_size]; simp [natsC, cellsN]) (by rw [natsC_size, hs]) (natsC_one m) hE h
end
end Go.Proofs.Ytpgjcmccfpjmoaa
end
section
namespace Go.Proofs.Ytpgjcmccfpjmoaa
set_option linter.unusedVariables false

def Mx : Nat := 2251799813685248
def pF : Nat := 57896044618658097711785492504343953926634992332820282019728792003956564819949
theorem Mx_pos : 0 < Mx := by decide
theorem Mx5 : Mx ^ 5 = pF + 19 := by decide

def valL : List Nat → Nat
  | [] => 0
  | x :: l => x + Mx * valL l
def digL : Nat → Nat → List Nat
  | 0, _ => []
  | k + 1, n => n % Mx :: digL k (n / Mx)

theorem digL_length (k n : Nat) : (digL k n).length = k := by
  induction k generalizing n with
  | zero => rfl
  | succ k ih => simp [digL, ih]
theorem digL_lt (k n : Nat) : ∀ x ∈ digL k n, x < Mx := by
  induction k generalizing n with
  | zero => intro x hx; cases hx
  | succ k ih =>
    intro x hx
    rcases List.mem_cons.1 hx with rfl | hx
    · exact Nat.mod_lt _ Mx_pos
    · exact ih _ x hx
theorem digL_valL (l : List Nat) (h : ∀ x ∈ l, x < Mx) : digL l.length (valL l) = l := by
  induction l with
  | nil => rfl
  | cons x l ih =>
    have hx := h x (by simp)
    simp only [List.length_cons, digL, valL]
    rw [Nat.add_mul_mod_self_left, Nat.mod_eq_of_lt hx, Nat.add_mul_div_left _ _ Mx_pos, Nat.div_eq_of_lt hx, Nat.zero_add, ih fun y hy => h y (by simp [hy])]
theorem valL_digL (k n : Nat) : valL (digL k n) = n % Mx ^ k := by
  induction k generalizing n with
  | zero => simp [digL, valL, Nat.mod_one]
  | succ k ih => rw [digL, valL, ih, Nat.pow_succ, Nat.mul_comm (Mx ^ k), Nat.mod_mul]
theorem digL_snoc (k n : Nat) : digL (k + 1) n = digL k n ++ [n / Mx ^ k % Mx] := by
  induction k generalizing n with
  | zero => simp [digL]
  | succ k ih =>
    rw [digL, ih, digL]
    simp [Nat.div_div_eq_div_mul, Nat.pow_succ, Nat.mul_comm]
theorem digL_mod (k n x : Nat) : digL k (n + Mx ^ k * x) = digL k n := by
  induction k generalizing n with
  | zero => rfl
  | succ k ih =>
    have e : n + Mx ^ (k + 1) * x = n + Mx * (Mx ^ k * x) := by rw [Nat.pow_succ, Nat.mul_comm (Mx ^ k) Mx, Nat.mul_assoc]
    rw [digL, digL, e, Nat.add_mul_mod_self_left, Nat.add_mul_div_left _ _ Mx_pos, ih]
theorem valL_append (a b : List Nat) : valL (a ++ b) = valL a + Mx ^ a.length * valL b := by
  induction a with
  | nil => simp [valL]
  | cons x a ih =>
    simp only [List.cons_append, valL, ih, List.length_cons, Nat.pow_succ]
    rw [Nat.mul_add, ← Nat.mul_assoc, Nat.mul_comm Mx (Mx ^ a.length), Nat.add_assoc]
theorem digL_inj {k m n : Nat} (hm : m < Mx ^ k) (hn : n < Mx ^ k) (h : digL k m = digL k n) : m = n := by
  have := congrArg valL h
  rwa [valL_digL, valL_digL, Nat.mod_eq_of_lt hm, Nat.mod_eq_of_lt hn] at this

/-- What carrying has made of the first k, and what it hands on. -/
def stC (l : List Nat) (k : Nat) : List Nat := digL k (valL (l.take k)) ++ l.drop k
def cyC (l : List Nat) (k : Nat) : Nat := valL (l.take k) / Mx ^ k
theorem stC_length (l : List Nat) (k : Nat) (h : k ≤ l.length) : (stC l k).length = l.length := by simp [stC, digL_length]; omega
theorem stC_zero (l : List Nat) : stC l 0 = l := by simp [stC, digL]
theorem cyC_zero (l : List Nat) : cyC l 0 = 0 := by simp [cyC, valL]
theorem take_val (l : List Nat) (k : Nat) (h : k < l.length) : valL (l.take (k + 1)) = valL (l.take k) + Mx ^ k * l.getD k 0 := by
  rw [List.take_succ_eq_append_getElem h, valL_append, List.length_take_of_le (by omega)]
  simp [valL, h]
theorem cyC_succ (l : List Nat) (k : Nat) (h : k < l.length) : cyC l (k + 1) = (l.getD k 0 + cyC l k) / Mx := by
  unfold cyC
  rw [take_val l k h, Nat.pow_succ, ← Nat.div_div_eq_div_mul, Nat.add_mul_div_left _ _ (Nat.pow_pos Mx_pos), Nat.add_comm]
theorem stC_get (l : List Nat) (k : Nat) (h : k < l.length) : (stC l k).getD k 0 = l.getD k 0 := by
  simp only [stC, List.getD_eq_getElem?_getD]
  rw [List.getElem?_append_right (by rw [digL_length]; exact Nat.le_refl _), digL_length, Nat.sub_self, List.getElem?_drop]
  simp
theorem stC_step (l : List Nat) (k : Nat) (h : k < l.length) : (stC l k).set k ((l.getD k 0 + cyC l k) % Mx) = stC l (k + 1) := by
  unfold stC
  rw [List.set_append_right _ _ (by rw [digL_length]; exact Nat.le_refl _), digL_length, Nat.sub_self, digL_snoc, take_val l k h, digL_mod, List.append_assoc]
  congr 1
  rw [List.drop_eq_getElem_cons h, List.set_cons_zero]
  have e : (valL (l.take k) + Mx ^ k * l.getD k 0) / Mx ^ k % Mx = (l.getD k 0 + cyC l k) % Mx := by
    rw [Nat.add_mul_div_left _ _ (Nat.pow_pos Mx_pos), Nat.add_comm]
    rfl
  rw [e]
  rfl
theorem cyC_lt (l : List Nat) (B : Nat) (hB : ∀ x ∈ l, x < B) (hB0 : 0 < B) (k : Nat) (h : k ≤ l.length) : Mx * cyC l k < 2 * B := by
  induction k with
  | zero => rw [cyC_zero]; omega
  | succ k ih =>
    have hx : l.getD k 0 < B := by
      have := hB (l[k]'(by omega)) (List.getElem_mem _)
      simpa [List.getD_eq_getElem?_getD, show k < l.length by omega] using this
    have h1 := ih (by omega)
    rw [cyC_succ l k (by omega)]
    have h2 := Nat.mul_div_le (l.getD k 0 + cyC l k) Mx
    have h3 : 2 * cyC l k ≤ Mx * cyC l k := Nat.mul_le_mul_right _ (by decide)
    omega

/-- One round of carrying, what is left over coming back to the first one nineteen times. -/
def carriedL (l : List Nat) : List Nat := (digL 5 (valL l)).set 0 (valL l % Mx + 19 * (valL l / Mx ^ 5))
def foldN (n : Nat) : Nat := n % Mx ^ 5 + 19 * (n / Mx ^ 5)
theorem carriedL_length (l : List Nat) : (carriedL l).length = 5 := by simp [carriedL, digL_length]
theorem digL5 (n : Nat) : digL 5 n = [n % Mx, n / Mx % Mx, n / Mx / Mx % Mx, n / Mx / Mx / Mx % Mx, n / Mx / Mx / Mx / Mx % Mx] := rfl
theorem carriedL_val (l : List Nat) : valL (carriedL l) = foldN (valL l) := by
  generalize hn : valL l = n
  have h1 := valL_digL 5 n
  unfold carriedL foldN
  rw [hn]
  rw [digL5] at h1 ⊢
  simp only [List.set_cons_zero, valL] at h1 ⊢
  omega
theorem foldN_mod (n : Nat) : foldN n % pF = n % pF := by
  have h := Nat.div_add_mod n (Mx ^ 5)
  have e : n = foldN n + pF * (n / Mx ^ 5) := by
    unfold foldN
    have : Mx ^ 5 * (n / Mx ^ 5) = pF * (n / Mx ^ 5) + 19 * (n / Mx ^ 5) := by rw [Mx5, Nat.add_mul]
    omega
  rw [e, Nat.add_mul_mod_self_left]
  rw [← e]
theorem carried_again (n2 : Nat) (h : n2 < Mx ^ 5 + 2000000) : (digL 5 n2).set 0 (n2 % Mx + 19 * (n2 / Mx ^ 5)) = digL 5 (foldN n2) ∧ foldN n2 < Mx ^ 5 := by
  rcases Nat.lt_or_ge n2 (Mx ^ 5) with hl | hl
  · have e : foldN n2 = n2 := by unfold foldN; rw [Nat.mod_eq_of_lt hl, Nat.div_eq_of_lt hl]; omega
    rw [e, Nat.div_eq_of_lt hl, digL5]
    exact ⟨by simp, hl⟩
  · obtain ⟨s, rfl⟩ : ∃ s, n2 = s + Mx ^ 5 * 1 := ⟨n2 - Mx ^ 5, by omega⟩
    have hs : s < 2000000 := by omega
    have hM : 3000000 < Mx := by decide
    have hM5 : Mx < Mx ^ 5 := by decide
    have d1 : (s + Mx ^ 5 * 1) / Mx ^ 5 = 1 := by rw [Nat.add_mul_div_left _ _ (by decide), Nat.div_eq_of_lt (by omega)]
    have d2 : (s + Mx ^ 5 * 1) % Mx ^ 5 = s := by rw [Nat.add_mul_mod_self_left, Nat.mod_eq_of_lt (by omega)]
    have d3 : (s + Mx ^ 5 * 1) % Mx = s := by
      rw [show s + Mx ^ 5 * 1 = s + Mx * Mx ^ 4 by rw [Nat.mul_one, Nat.mul_comm Mx]; rfl, Nat.add_mul_mod_self_left, Nat.mod_eq_of_lt (by omega)]
    have e : foldN (s + Mx ^ 5 * 1) = s + 19 := by unfold foldN; rw [d1, d2]
    rw [e, d1, d3, digL_mod, digL5, digL5]
    have z1 : s / Mx = 0 := Nat.div_eq_of_lt (by omega)
    have z2 : (s + 19) / Mx = 0 := Nat.div_eq_of_lt (by omega)
    have z3 : (s + 19) % Mx = s + 19 := Nat.mod_eq_of_lt (by omega)
    refine ⟨?_, by omega⟩
    rw [z1, z2, z3]
    simp
theorem valL5_lt (l : List Nat) (hl : l.length = 5) (h : ∀ x ∈ l, x < 9223372036854775808) : valL l < Mx ^ 5 * 8192 := by
  match l, hl with
  | [a, b, c, d, e], _ =>
    have ha := h a (by simp)
    have hb := h b (by simp)
    have hc := h c (by simp)
    have hd := h d (by simp)
    have he := h e (by simp)
    simp only [valL, Mx]
    omega
theorem foldN_lt (n : Nat) (h : n < Mx ^ 5 * 8192) : foldN n < Mx ^ 5 + 2000000 := by
  have h1 : n / Mx ^ 5 < 8192 := Nat.div_lt_of_lt_mul h
  have h2 := Nat.mod_lt n (show 0 < Mx ^ 5 by decide)
  unfold foldN
  omega

/-- What two rounds make. -/
def twiceN (n : Nat) : Nat := foldN (foldN n)
theorem carried_twice (l : List Nat) (hl : l.length = 5) (h : ∀ x ∈ l, x < 9223372036854775808) : carriedL (carriedL l) = digL 5 (twiceN (valL l)) ∧ twiceN (valL l) < Mx ^ 5 := by
  have h1 := carried_again (foldN (valL l)) (foldN_lt _ (valL5_lt l hl h))
  unfold twiceN
  refine ⟨?_, h1.2⟩
  rw [← h1.1]
  unfold carriedL
  rw [show valL ((digL 5 (valL l)).set 0 (valL l % Mx + 19 * (valL l / Mx ^ 5))) = foldN (valL l) from carriedL_val l]
theorem twiceN_mod (n : Nat) : twiceN n % pF = n % pF := by unfold twiceN; rw [foldN_mod, foldN_mod]
theorem carriedL_lt (l : List Nat) (hl : l.length = 5) (h : ∀ x ∈ l, x < 9223372036854775808) : ∀ x ∈ carriedL l, x < 9223372036854775808 := by
  have h1 : valL l / Mx ^ 5 < 8192 := Nat.div_lt_of_lt_mul (valL5_lt l hl h)
  have h2 := Nat.mod_lt (valL l) Mx_pos
  have hM : Mx + 200000 < 9223372036854775808 := by decide
  intro x hx
  rcases List.mem_or_eq_of_mem_set hx with hx | rfl
  · have := digL_lt 5 _ x hx
    omega
  · omega

/-- The one array of a number below p. -/
def elemL (n : Nat) : List Nat := digL 5 n
theorem elemL_length (n : Nat) : (elemL n).length = 5 := digL_length 5 n
theorem elemL_lt (n : Nat) : ∀ x ∈ elemL n, x < Mx := digL_lt 5 n
theorem pF_lt : pF < Mx ^ 5 := by decide
theorem elemL_val (n : Nat) (h : n < pF) : valL (elemL n) = n := by
  unfold elemL
  rw [valL_digL, Nat.mod_eq_of_lt (Nat.lt_trans h pF_lt)]
theorem elemL_inj {m n : Nat} (hm : m < pF) (hn : n < pF) (h : elemL m = elemL n) : m = n := by
  have := congrArg valL h
  rwa [elemL_val m hm, elemL_val n hn] at this

/-- Whether what two rounds have left is not below p. -/
theorem not_below (m : Nat) (h : m < Mx ^ 5) : (2251799813685229 ≤ m % Mx ∧ digL 5 m = [m % Mx, 2251799813685247, 2251799813685247, 2251799813685247, 2251799813685247]) ↔ pF ≤ m := by
  rw [digL5]
  simp only [List.cons.injEq, and_true, true_and]
  unfold Mx at *
  unfold pF
  omega
theorem less_p (m : Nat) (h : m < Mx ^ 5) (hp : pF ≤ m) : [m % Mx - 2251799813685229, 0, 0, 0, 0] = elemL (m % pF) := by
  have e : m % pF = m - pF := by
    rw [Nat.mod_eq_sub_mod hp, Nat.mod_eq_of_lt]
    rw [Mx5] at h
    unfold pF at *
    omega
  unfold elemL
  rw [e, digL5]
  simp only [List.cons.injEq, and_true]
  unfold Mx at *
  unfold pF at *
  omega
theorem below_p (m : Nat) (hp : ¬ pF ≤ m) : digL 5 m = elemL (m % pF) := by
  unfold elemL
  rw [Nat.mod_eq_of_lt (by omega)]
end Go.Proofs.Ytpgjcmccfpjmoaa
end
section
namespace Go.Proofs.Ytpgjcmccfpjmoaa
open Go.RowKit
set_option linter.unusedVariables false
set_option maxRecDepth 20000

theorem Try.sz5p : (Try.prog.info? 43).map (·.size) = some 5 := by kernel_rfl
theorem Try.sz5e : (Try.prog.info? 45).map (·.size) = some 5 := by kernel_rfl
theorem Try.sz5w : (Try.prog.info? 42).map (·.size) = some 5 := by kernel_rfl
theorem Try.szU64 : (Try.prog.info? 39).map (·.size) = some 1 := by kernel_rfl
def zero5 : List Nat := [0, 0, 0, 0, 0]
theorem zero5_length : zero5.length = 5 := rfl
theorem Try.zero5p : (Try.prog.info? 43).map (·.zero) = some (some (.agg (natsC zero5))) := by kernel_rfl
theorem Try.zero5e : (Try.prog.info? 45).map (·.zero) = some (some (.agg (natsC zero5))) := by kernel_rfl
theorem Try.zero5w : (Try.prog.info? 42).map (·.zero) = some (some (.agg (natsC zero5))) := by kernel_rfl

theorem place_any (w : World) (i : Nat) (hi : i < 5) :
    Calls Try.prog 44 #[.int .i64 (i : Int)] w fun e w' => e = .returned (.tuple #[.int .i64 ((51 * i / 64 : Nat) : Int), .int .u64 ((51 * i % 64 : Nat) : Int)]) ∧ w = w' := by
  go_enter Try.func44, Try.ntmps44
  go_wp2
  go_ret2
  have h1 : ((51 * i / 64 : Nat) : Int) = (51 * (i : Int)) / 64 := by omega
  have h2 : ((51 * i % 64 : Nat) : Int) = (51 * (i : Int)) % 64 := by omega
  exact ⟨by rw [h1, h2]; rfl, rfl⟩

set_option maxHeartbeats 1000000 in
theorem carried_any (w : World) (l : List Nat) (hl : l.length = 5) (hB : ∀ x ∈ l, x < 9223372036854775808) :
    Calls Try.prog 51 #[.agg (natsC l)] w (RetV w (.agg (natsC (carriedL l)))) := by
  have HL := Lib.hid hl
  have HB := Lib.hid hB
  clear hl hB
  have E0 := Env.start w
  go_enter Try.func51, Try.ntmps51
  go_wp2_with (first
    | ((with_reducible refine wpE_box (o := ⟨some 1, _, _, _, _, _⟩) rfl 43 (.tmp 0) rfl (natsC l) (by with_unfolding_all rfl) E0 ?_); intro g1 w1 E1)
    | ((with_reducible refine wpE_alloc (o := ⟨some 2, _, _, _, _, _⟩) rfl 43 rfl (natsC zero5) Try.zero5p E1 ?_); intro g2 w2 E2))
  have E2' := Lib.hid E2
  clear E0 E1 E2
  go_loopw [3, 5] (fun c i wr => ∃ k : Nat, k ≤ 5 ∧ i = .int .i64 k ∧ c = .int .u64 ((cyC l k : Nat) : Int) ∧ Env w [(g2, 43, natsC zero5), (g1, 43, natsC (stC l k))] wr) (fun _ i _ => 5 - (intOf i).toNat)
  case atStart => exact ⟨0, by omega, rfl, by rw [cyC_zero]; rfl, by rw [stC_zero]; exact E2'.out⟩
  case round =>
    clear E2'
    obtain ⟨k, hk, rfl, rfl, hE⟩ := hrel
    have E := Lib.hid hE
    clear hE
    by_cases hlt : k < 5
    · have hsl : (stC l k).length = 5 := by rw [stC_length l k (by rw [HL.out]; omega), HL.out]
      have c1 := E.out.getN 1 rfl k (by rw [hsl]; omega)
      have f1 := E.out.fzN 1 rfl k
      rw [stC_get l k (by rw [HL.out]; omega)] at c1
      have hx := getD_lt HB.out (by omega) k
      have hc := cyC_lt l _ HB.out (by omega) k (by rw [HL.out]; omega)
      have hc2 : cyC l k < 16384 := by unfold Mx at hc; omega
      have hstep := stC_step l k (by rw [HL.out]; omega)
      have hcy := cyC_succ l k (by rw [HL.out]; omega)
      generalize l.getD k 0 = x at c1 hx hstep hcy
      generalize cyC l k = c at hc2 hstep hcy ⊢
      clear hc hsl
      have E3 := (E.out.cellN 1 rfl k (x + c)).cellN 1 rfl k ((x + c) % 2251799813685248)
      simp only [List.set_cons_zero, List.set_cons_succ, List.set_set] at E3
      rw [show (stC l k).set k ((x + c) % 2251799813685248) = stC l (k + 1) from hstep] at E3
      have HE := Lib.hid E3
      have hsum : IntKind.u64.wrap ((x : Int) + (c : Int)) = ((x + c : Nat) : Int) := by rw [IntKind.wrap_u64]; omega
      have hdiv : ((x + c : Nat) : Int) / 2251799813685248 = ((cyC l (k + 1) : Nat) : Int) := by rw [hcy]; unfold Mx; omega
      have hand := and51 (x + c) (by omega)
      have hq : (k : Int) < 5 := by omega
      generalize (x + c) % 2251799813685248 = y at HE hand
      generalize x + c = s at HE hsum hdiv hand
      obtain ⟨c', hc'⟩ : ∃ c', c' = cyC l (k + 1) := ⟨_, rfl⟩
      rw [← hc'] at hdiv
      have HC := Lib.hid hc'
      clear hc'
      clear hstep hcy E3 E
      go_wp2
      go_roundw
      case rel => exact ⟨k + 1, by omega, by go_num, by rw [HC.out], HE.out⟩
      case measure => simp [intOf]; omega
    · have hk5 : k = 5 := by omega
      have e1 : stC l k = digL 5 (valL l) := by
        rw [hk5]
        unfold stC
        rw [List.take_of_length_le (by rw [HL.out]; omega), List.drop_eq_nil_of_le (by rw [HL.out]; omega), List.append_nil]
      have e2 : cyC l k = valL l / Mx ^ 5 := by rw [hk5]; unfold cyC; rw [List.take_of_length_le (by rw [HL.out]; omega)]
      have hsl : (stC l k).length = 5 := by rw [e1, digL_length]
      have hfin : (stC l k).set 0 ((stC l k).getD 0 0 + 19 * cyC l k) = carriedL l := by rw [e1, e2]; rfl
      have c1 := E.out.getN 1 rfl 0 (by rw [hsl]; omega)
      have f1 := E.out.fzN 1 rfl 0
      have hd2 : (stC l k).getD 0 0 < 2251799813685248 := by rw [e1]; exact getD_lt (digL_lt 5 _) Mx_pos 0
      have hc := cyC_lt l _ HB.out (by omega) k (by rw [HL.out]; omega)
      have hc2 : cyC l k < 16384 := by unfold Mx at hc; omega
      have E3 := E.out.cellN 1 rfl 0 ((stC l k).getD 0 0 + 19 * cyC l k)
      simp only [List.set_cons_zero, List.set_cons_succ] at E3
      rw [hfin] at E3
      have HE := Lib.hid E3
      clear hc E3 E hfin hsl e1 e2 hk5
      generalize (stC l k).getD 0 0 = x at c1 hd2 HE
      generalize cyC l k = c at hc2 HE ⊢
      have hx : x + 19 * c < 18446744073709551616 := by omega
      obtain ⟨s, hs⟩ : ∃ s, s = x + 19 * c := ⟨_, rfl⟩
      have hsum : (x : Int) + 19 * (c : Int) = (s : Int) := by omega
      rw [← hs] at HE hx
      clear hs
      go_wp2_with (first
        | (with_reducible refine wpE_load (o := ⟨some 30, _, _, _, _, _⟩) rfl 43 (.tmp 1) rfl 1 g1 43 (natsC (carriedL l)) (.array 5 39) (by with_unfolding_all rfl) (by with_unfolding_all rfl) Try.underlying43 rfl (sizeN Try.sz5p _ (carriedL_length l)) HE.out ?_)
        | ((with_reducible refine wpE_store (o := ⟨none, _, _, _, _, _⟩) rfl 43 (.tmp 2) (.tmp 30) rfl 0 g2 43 (natsC zero5) (natsC (carriedL l)) (by with_unfolding_all rfl) (by with_unfolding_all rfl) (by with_unfolding_all rfl) (natsC_same zero5_length (carriedL_length l)) (sizeN Try.sz5p _ (carriedL_length l)) (natsC_one _) HE.out ?_); intro w9 E9))
      refine bodyPost_ret (results_cell_row rfl _ _ g2 43 (natsC (carriedL l)) (0, 0) (.array 5 39) rfl (E9.row 0 rfl) Try.underlying43 rfl (sizeN Try.sz5p _ (carriedL_length l))) rfl (E9.ret _)
end Go.Proofs.Ytpgjcmccfpjmoaa
end
