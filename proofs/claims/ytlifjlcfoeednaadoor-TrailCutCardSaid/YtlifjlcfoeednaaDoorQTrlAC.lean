/-
  Texts that belong together, merged: Round, ShaR, ShaS, C, ShaD. Conditions: as each theorem names them.
-/
import Derived.Test.YtlifjlcfoeednaaDoorQTrlAA
import Derived.Deep.RegionHeld
import Derived.RangeFuncNested
import Derived.RangeFuncBound
import Derived.RangeFuncCalls
import Derived.RangeFuncLeaves
import Derived.Shelf.Abstract
import Derived.Shelf.RegionOpen
import Derived.OwnWalkIn
import Derived.TacticsInMore
import Derived.LoopNIn
import Derived.LoopIn
import Derived.Test.YtlifjlcfoeednaaDoorQTrlAB
import Derived.StillTailTactics
import Derived.BigQuiet
section
namespace Go.Proofs.YtlifjlcfoeednaaDoor
open Go.RowKit Go.Shelf
set_option linter.unusedVariables false

section
variable {P : Program} {ops : Array Oper} {Q : Exit → Act → World → Prop} {md : Region.Mode}

theorem oper_round {o : Oper} {a : Act} {w : World} {K : Act → World → Prop} (l n : Nat) (hd : ∀ c, o.op ≠ .defer c) (h : o.wp P a w K Q) : o.wpIn (Fence.wide.inRound l) n P a w K Q := by
  refine ⟨fun _ _ => trivial, ?_⟩
  have e : (o.semAt (Fence.wide.inRound l).round a.eval) = execOp a.eval o := Oper.semAt_some l _ _ hd
  rw [e]
  unfold Oper.wp at h
  generalize (execOp a.eval o).run P w = r at *
  cases r with
  | ok x w' =>
    cases x <;> simp only [Oper.upon, Oper.uponIn] at h ⊢
    case value => exact h
    case skip => exact h
    case defer => exact h
    case enter => exact ⟨fun h => by simp [Fence.wide] at h, CallsIn.inRound l (callsIn_wide.2 h)⟩
    case row =>
      refine ⟨fun h => by simp [Fence.wide] at h, fun c cs _ => ?_⟩
      obtain ⟨v, w', hr, hs⟩ := h c cs
      exact ⟨v, w', hr, stepsIn_wide.2 hs⟩
  | halt x w' => cases x <;> simp only [Oper.upon, Oper.uponIn] at h ⊢ <;> exact h

theorem any_round (l n : Nat) (hd : ∀ (i : Nat) (o : Oper) c, ops[i]? = some o → o.op ≠ .defer c) (hq : ¬ LetsOut Q) : ∀ (fuel : Nat) (listed : Array Bool) (a : Act) (w : World),
    wpAny P md ops Q fuel listed a w → wpAnyIn (Fence.wide.inRound l) n P md ops Q fuel listed a w := by
  intro fuel
  induction fuel with
  | zero => intro listed a w h; exact h
  | succ fuel ih =>
    intro listed a w h
    refine ⟨h.1, fun i hi => ?_⟩
    have h2 := h.2 i hi
    unfold wpOp at h2
    unfold wpOpIn
    cases ho : ops[i]? with
    | none => rw [ho] at h2; exact ih _ _ _ h2
    | some o =>
      rw [ho] at h2
      simp only at h2 ⊢
      split
      · rename_i hw
        rw [if_pos hw] at h2
        rcases h2 with h2 | ⟨_, h2⟩
        · exact oper_round l n (fun c => hd i o c ho) (Oper.wp_mono (fun a w => ih _ a w) h2)
        · exact absurd h2 hq
      · rename_i hw
        rw [if_neg hw] at h2
        exact ⟨fun _ _ => trivial, ih _ _ _ h2⟩

/-- Whatever order is picked: behind each operation that is carried out S holds, but for those (fin) that wait for all that is taken first. -/
def walkS (P : Program) (md : Region.Mode) (ops : Array Oper) (Q : Exit → Act → World → Prop) (S : World → Prop) (fin : Nat → Bool) : Nat → Array Bool → Act → World → Prop
  | 0, listed, a, w => Region.ready md ops listed = [] ∧ Q .normal a w
  | m + 1, listed, a, w => (Region.ready md ops listed = [] → Q .normal a w) ∧
      ∀ i ∈ Region.ready md ops listed, wpOp P ops Q i (fun a' w' => (fin i = true ∨ S w') ∧ walkS P md ops Q S fin m (listed.setIfInBounds i true) a' w') a w

theorem any_of_walkS {S : World → Prop} {fin : Nat → Bool} (m : Nat) : ∀ (listed : Array Bool) (a : Act) (w : World), walkS P md ops Q S fin m listed a w → wpAny P md ops Q m listed a w := by
  induction m with
  | zero => exact fun _ _ _ h => h
  | succ m ih => exact fun listed a w h => ⟨h.1, fun i hi => wpOp_mono (fun a' w' k => ih _ a' w' k.2) (h.2 i hi)⟩

/-- Taken first: it yields v wherever S holds, and those of fin wait for it. -/
theorem walkS_take {S : World → Prop} {fin : Nat → Bool} {i : Nat} {oi : Oper} {v : Value} (hi : ops[i]? = some oi) (hs : Region.noSelect ops = true)
    (hw : ((List.range ops.size).all fun j => !fin j || (match ops[j]? with | some oj => oj.after.any (fun e => Region.binds md e && e.on == i) | none => true)) = true)
    (hQ : ∀ c a w, Q (.panic c) (a.put oi.dst v) w → Q (.panic c) a w) :
    ∀ (m : Nat) (listed : Array Bool) (a : Act) (w : World), Region.free md ops listed i = true → (Region.ready md ops listed).contains i = true → YieldsIf P ops S oi v a → S w →
      walkS P md ops Q S fin m (listed.setIfInBounds i true) (a.put oi.dst v) w → walkS P md ops Q S fin (m + 1) listed a w := by
  have late : ∀ (j : Nat) (oj : Oper), ops[j]? = some oj → (∀ e ∈ oj.after, Region.binds md e = true → e.on ≠ i) → fin j = false := by
    intro j oj hj hno
    have h1 := List.all_eq_true.1 hw j (List.mem_range.2 (Array.getElem?_eq_some_iff.1 hj).1)
    rw [hj] at h1
    cases hf : fin j with
    | false => rfl
    | true =>
      rw [hf] at h1
      simp only [Bool.not_true, Bool.false_or] at h1
      obtain ⟨e, he, hb⟩ := Array.any_eq_true'.1 h1
      simp only [Bool.and_eq_true, beq_iff_eq] at hb
      exact absurd hb.2 (hno e he hb.1)
  have main : ∀ (m : Nat) (listed : Array Bool) (a : Act) (w : World),
      (∀ j oj, ops[j]? = some oj → j ≠ i → listed.getD j true = false → (∀ e ∈ oj.after, Region.binds md e = true → e.on ≠ i) → oi.apart ops oj = true) →
      i ∈ Region.ready md ops listed → YieldsIf P ops S oi v a → S w →
      walkS P md ops Q S fin m (listed.setIfInBounds i true) (a.put oi.dst v) w → walkS P md ops Q S fin (m + 1) listed a w := by
    intro m
    induction m with
    | zero =>
      intro listed a w _ hr hy hS H
      refine ⟨fun h => by simp [h] at hr, fun j hj => ?_⟩
      rcases Nat.decEq j i with hji | hji
      · have := ready_mono hj hji
        rw [H.1] at this
        simp at this
      · subst hji
        exact hy.wpOp hi hS ⟨.inr hS, H⟩
    | succ m ih =>
      intro listed a w hfree hr hy hS H
      refine ⟨fun h => by simp [h] at hr, fun j hj => ?_⟩
      rcases Nat.decEq j i with hji | hji
      · obtain ⟨hun, oj, hoj, hall⟩ := mem_ready.1 hj
        have hno : ∀ e ∈ oj.after, Region.binds md e = true → e.on ≠ i := by
          intro e he hb hon
          have t1 := hall e he hb
          have t0 := (mem_ready.1 hr).1
          rw [hon] at t1
          rcases Nat.lt_or_ge i listed.size with hlt | hge
          · simp [hlt] at t0 t1
            rw [t0] at t1
            cases t1
          · simp [Array.getElem?_eq_none hge] at t1
        have hlate := late j oj hoj hno
        refine wpOp_mono (fun a' w' k => ?_) (wpOp_putIf hoj (hfree j oj hoj hji hun hno) (fun cs b => Region.noSelect_spec hs i oi cs b hi) (fun cs b => Region.noSelect_spec hs j oj cs b hoj) hQ hy (H.2 j (ready_mono hj hji)))
        obtain ⟨k1, k2, k3⟩ := k
        have hS' : S w' := k2.resolve_left (by rw [hlate]; simp)
        refine ⟨.inr hS', ih _ a' w' ?_ (ready_mono hr (Ne.symm hji)) k1 hS' (by rw [Array.setIfInBounds_comm _ _ hji]; exact k3)⟩
        intro x ox hox hxi hxu hxn
        refine hfree x ox hox hxi ?_ hxn
        rcases Nat.decEq j x with hjx | hjx
        · rwa [getD_set_ne true hjx] at hxu
        · rw [← hjx]; exact hun
      · subst hji
        exact hy.wpOp hi hS ⟨.inr hS, H⟩
  intro m listed a w hf hr hy hS h
  exact main m listed a w (fun j oj h1 h2 h3 h4 => Region.free_spec hi hf j oj h1 h2 h3 h4) (by simpa using hr) hy hS h

/-- The only one that may come up. -/
theorem walkS_only {S : World → Prop} {fin : Nat → Bool} {i : Nat} {o : Oper} {m : Nat} {listed : Array Bool} {a : Act} {w : World} (hr : Region.ready md ops listed = [i]) (ho : ops[i]? = some o) (hg : o.guard = none)
    (h : ∀ K : Act → World → Prop, (∀ a' w', (fin i = true ∨ S w') → walkS P md ops Q S fin m (listed.setIfInBounds i true) a' w' → K a' w') → o.wp P a w K Q) : walkS P md ops Q S fin (m + 1) listed a w := by
  refine ⟨fun h0 => by simp [hr] at h0, fun j hj => ?_⟩
  rw [hr] at hj
  obtain rfl : j = i := by simpa using hj
  unfold wpOp
  rw [ho]
  have hw : Region.wanted o (yielded ops a.tmps) = true := by simp [Region.wanted, hg]
  simp only [hw, if_true]
  exact .inl (h _ (fun a' w' h1 h2 => ⟨h1, h2⟩))
theorem walkS_done {S : World → Prop} {fin : Nat → Bool} {listed : Array Bool} {a : Act} {w : World} (hr : Region.ready md ops listed = []) (h : Q .normal a w) (m : Nat) : walkS P md ops Q S fin m listed a w := by
  cases m with
  | zero => exact ⟨hr, h⟩
  | succ m => exact ⟨fun _ => h, by simp [hr]⟩

/-- The way in: S holds behind the draw, and the walk goes on as ever. -/
theorem round_region {id : Nat} {a : Act} {w : World} {l n : Nat} {S : World → Prop} {fin : Nat → Bool} (hm : P.follows .mixedOrders = true) (hd : (ops.toList.all fun o => match o.op with | .defer _ => false | _ => true) = true) (hq : ¬ LetsOut Q)
    (h : walkS P .any ops Q S fin ops.size (Array.replicate ops.size false) a w.drew) : (Code.region id ops true).wpIn (Fence.wide.inRound l) n P Q a w := by
  refine wpIn_region_any hm (any_round l n (fun i o c ho hc => ?_) hq _ _ _ _ (any_of_walkS _ _ _ _ h))
  have hmem : o ∈ ops.toList := by
    have := Array.mem_of_getElem? ho
    simpa using this
  have := List.all_eq_true.1 hd o hmem
  rw [hc] at this
  simp at this

theorem oper_wide {o : Oper} {a : Act} {w : World} {K : Act → World → Prop} (n : Nat) (h : o.wp P a w K Q) : o.wpIn Fence.wide n P a w K Q := by
  refine ⟨fun _ _ => trivial, ?_⟩
  have e : (o.semAt Fence.wide.round a.eval) = execOp a.eval o := Oper.semAt_none _ _
  rw [e]
  unfold Oper.wp at h
  generalize (execOp a.eval o).run P w = r at *
  cases r with
  | ok x w' =>
    cases x <;> simp only [Oper.upon, Oper.uponIn] at h ⊢
    case value => exact h
    case skip => exact h
    case defer => exact h
    case enter => exact ⟨fun h => by simp [Fence.wide] at h, callsIn_wide.2 h⟩
    case row =>
      refine ⟨fun h => by simp [Fence.wide] at h, fun c cs _ => ?_⟩
      obtain ⟨v, w', hr, hs⟩ := h c cs
      exact ⟨v, w', hr, stepsIn_wide.2 hs⟩
  | halt x w' => cases x <;> simp only [Oper.upon, Oper.uponIn] at h ⊢ <;> exact h

/-- The two fences that are used here: none at all, and a round of loop l. -/
theorem list_wide {rest : List Oper} {o : Oper} {a : Act} {w : World} {n : Nat} (hgd : o.guard = none)
    (h : ∀ K : Act → World → Prop, (∀ a w, wpListIn Fence.wide n P ops Q rest a w → K a w) → o.wp P a w K Q) : wpListIn Fence.wide n P ops Q (o :: rest) a w :=
  wpListIn_plain hgd fun K hK => oper_wide n (h K hK)
theorem list_round {rest : List Oper} {o : Oper} {a : Act} {w : World} {n l : Nat} (hgd : o.guard = none) (hd : ∀ c, o.op ≠ .defer c)
    (h : ∀ K : Act → World → Prop, (∀ a w, wpListIn (Fence.wide.inRound l) n P ops Q rest a w → K a w) → o.wp P a w K Q) : wpListIn (Fence.wide.inRound l) n P ops Q (o :: rest) a w :=
  wpListIn_plain hgd fun K hK => oper_round l n hd (h K hK)
end

section
variable {P : Program} {w : World} {ops : Array Oper} {rest : List Oper} {o : Oper} {a : Act} {Q : Exit → Act → World → Prop} {n : Nat}
theorem wideL_alloc_row (hgd : o.guard = none) (ty : TypeId) (ho : o.op = .alloc ty) (z : Array Value) (hz : (P.info? ty).map (·.zero) = some (some (.agg z)))
    (h : ∀ g w', NewRow w g ty z w' → wpListIn Fence.wide n P ops Q rest (a.put o.dst (.pointer (some ⟨g, 0, none⟩))) w') : wpListIn Fence.wide n P ops Q (o :: rest) a w :=
  list_wide hgd fun _ hK => wp_alloc_row ty ho z hz fun g w' hn => hK _ _ (h g w' hn)
theorem wideL_box_row (hgd : o.guard = none) (ty : TypeId) (x : Operand) (ho : o.op = .box ty x) (cs : Array Value) (hx : a.eval x = .agg cs)
    (h : ∀ g w', NewRow w g ty cs w' → wpListIn Fence.wide n P ops Q rest (a.put o.dst (.pointer (some ⟨g, 0, none⟩))) w') : wpListIn Fence.wide n P ops Q (o :: rest) a w :=
  list_wide hgd fun _ hK => wp_box_row ty x ho cs hx fun g w' hn => hK _ _ (h g w' hn)
theorem wideL_store_row (hgd : o.guard = none) (ty : TypeId) (x y : Operand) (ho : o.op = .store ty x y)
    (g : Nat) (t : TypeId) (old cs : Array Value) (hx : a.eval x = .pointer (some ⟨g, 0, none⟩)) (hy : a.eval y = .agg cs) (hg : RowAt w g t old) (hs : old.size = cs.size) (hi : (P.info? ty).map (·.size) = some cs.size)
    (h1 : ∀ u ∈ cs.toList, u.oneCell' = true)
    (h : ∀ w', PutRow w g t cs w' → wpListIn Fence.wide n P ops Q rest (a.put o.dst undef) w') : wpListIn Fence.wide n P ops Q (o :: rest) a w :=
  list_wide hgd fun _ hK => wp_store_row ty x y ho g t old cs hx hy hg hs hi h1 fun w' hn => hK _ _ (h w' hn)
theorem wideL_load_row (hgd : o.guard = none) (ty : TypeId) (x : Operand) (ho : o.op = .load ty x)
    (g : Nat) (hx : a.eval x = .pointer (some ⟨g, 0, none⟩)) (t : TypeId) (cs : Array Value) (fr : Nat × Nat) (d : TypeDesc) (hg : w.heap[g]? = some (.cells cs t fr))
    (hu : P.underlying ty = some d) (hd : (match d with | .struct _ | .array _ _ => true | _ => false) = true) (hi : (P.info? ty).map (·.size) = some cs.size)
    (h : wpListIn Fence.wide n P ops Q rest (a.put o.dst (.agg cs)) w) : wpListIn Fence.wide n P ops Q (o :: rest) a w :=
  list_wide hgd fun _ hK => wp_load_row ty x ho g hx t cs fr d hg hu hd hi (hK _ _ h)

theorem roundL_alloc_row {l : Nat} (hgd : o.guard = none) (ty : TypeId) (ho : o.op = .alloc ty) (z : Array Value) (hz : (P.info? ty).map (·.zero) = some (some (.agg z)))
    (h : ∀ g w', NewRow w g ty z w' → wpListIn (Fence.wide.inRound l) n P ops Q rest (a.put o.dst (.pointer (some ⟨g, 0, none⟩))) w') : wpListIn (Fence.wide.inRound l) n P ops Q (o :: rest) a w :=
  list_round hgd (fun c hc => by rw [ho] at hc; cases hc) fun _ hK => wp_alloc_row ty ho z hz fun g w' hn => hK _ _ (h g w' hn)
theorem roundL_box_row {l : Nat} (hgd : o.guard = none) (ty : TypeId) (x : Operand) (ho : o.op = .box ty x) (cs : Array Value) (hx : a.eval x = .agg cs)
    (h : ∀ g w', NewRow w g ty cs w' → wpListIn (Fence.wide.inRound l) n P ops Q rest (a.put o.dst (.pointer (some ⟨g, 0, none⟩))) w') : wpListIn (Fence.wide.inRound l) n P ops Q (o :: rest) a w :=
  list_round hgd (fun c hc => by rw [ho] at hc; cases hc) fun _ hK => wp_box_row ty x ho cs hx fun g w' hn => hK _ _ (h g w' hn)
theorem roundL_store_row {l : Nat} (hgd : o.guard = none) (ty : TypeId) (x y : Operand) (ho : o.op = .store ty x y)
    (g : Nat) (t : TypeId) (old cs : Array Value) (hx : a.eval x = .pointer (some ⟨g, 0, none⟩)) (hy : a.eval y = .agg cs) (hg : RowAt w g t old) (hs : old.size = cs.size) (hi : (P.info? ty).map (·.size) = some cs.size)
    (h1 : ∀ u ∈ cs.toList, u.oneCell' = true)
    (h : ∀ w', PutRow w g t cs w' → wpListIn (Fence.wide.inRound l) n P ops Q rest (a.put o.dst undef) w') : wpListIn (Fence.wide.inRound l) n P ops Q (o :: rest) a w :=
  list_round hgd (fun c hc => by rw [ho] at hc; cases hc) fun _ hK => wp_store_row ty x y ho g t old cs hx hy hg hs hi h1 fun w' hn => hK _ _ (h w' hn)
theorem roundL_load_row {l : Nat} (hgd : o.guard = none) (ty : TypeId) (x : Operand) (ho : o.op = .load ty x)
    (g : Nat) (hx : a.eval x = .pointer (some ⟨g, 0, none⟩)) (t : TypeId) (cs : Array Value) (fr : Nat × Nat) (d : TypeDesc) (hg : w.heap[g]? = some (.cells cs t fr))
    (hu : P.underlying ty = some d) (hd : (match d with | .struct _ | .array _ _ => true | _ => false) = true) (hi : (P.info? ty).map (·.size) = some cs.size)
    (h : wpListIn (Fence.wide.inRound l) n P ops Q rest (a.put o.dst (.agg cs)) w) : wpListIn (Fence.wide.inRound l) n P ops Q (o :: rest) a w :=
  list_round hgd (fun c hc => by rw [ho] at hc; cases hc) fun _ hK => wp_load_row ty x ho g hx t cs fr d hg hu hd hi (hK _ _ h)
end

section
variable {P : Program} {w : World}
/-- append of bytes onto the call's own row: just that row's block turns. -/
theorem wp_appG {o : Oper} {a : Act} {K : Act → World → Prop} {Q : Exit → Act → World → Prop} (s x : Operand) (t : TypeId)
    (ho : o.op = .call { callee := .builtin .append, args := #[s, x], argTypes := #[t, t] })
    (base : Nat) (e : TypeId) (hinfo : (P.info? e).map (fun i => (i.zero, i.size, i.bytes)) = some (some (.int .u8 0), 1, 1)) (ht : P.underlying t = some (.slice e))
    (v u : Value) (l m : List UInt8) (hs : a.eval s = v) (hx : a.eval x = u) (hown : OwnB w base e v l) (hu : Bs w u m) (hlen : l.length + m.length ≤ 140737488355328) (hb : base ≤ w.heap.size)
    (h : ∀ v' w', OwnB w' base e v' (l ++ m) → w.grownBy w' v.ownBlock → K (a.put o.dst v') w') : o.wp P a w K Q := by
  obtain ⟨v', w', hr, h2, h3⟩ := run_appB (P := P) w base t o.type e hinfo ht v u l m hown hu hlen hb
  unfold Oper.wp execOp
  simp only [ho, resolve, invoke, builtin, Sem.run_bind, Sem.run_pure, Result.andThen_ok, List.map_toArray, List.map_cons, List.map_nil, hs, hx, hr]
  exact h v' w' h2 h3
theorem OwnB.spot {base : Nat} {e : TypeId} {v : Value} {l : List UInt8} (h : OwnB w base e v l) {k : Nat} (hk : v.ownBlock = some k) : ∃ cur, w.heap[k]? = some (.cells cur e (0, 0)) := by
  rcases h.2 with ⟨rfl, _⟩ | ⟨g, cap, cur, rfl, _, hg, _⟩
  · cases hk
  · obtain rfl : g = k := by simpa [Value.ownBlock] using hk
    exact ⟨cur, hg⟩
/-- A block of another type is no row of the call's own. -/
theorem OwnB.other {base : Nat} {e t : TypeId} {v : Value} {l : List UInt8} (h : OwnB w base e v l) {g : Nat} {c : Array Value} {f : Nat × Nat} (hg : w.heap[g]? = some (.cells c t f)) (hte : t ≠ e) : some g ≠ v.ownBlock := by
  intro hk
  obtain ⟨cur, hc⟩ := h.spot hk.symm
  rw [hg] at hc
  injection hc with hc
  injection hc with _ h2 _
  exact hte h2
theorem OwnB.shape {base : Nat} {e : TypeId} {v : Value} {l : List UInt8} (h : OwnB w base e v l) : ∃ A c, v = .slice A l.length c ∧ l.length ≤ c ∧ c ≤ maxLen := by
  obtain ⟨A, c, h1, h2, h3, _⟩ := h.bs
  exact ⟨A, c, h1, h2, h3⟩
theorem OwnB.grown {w' : World} {base : Nat} {e : TypeId} {v : Value} {l : List UInt8} {row : Option Nat} (h : OwnB w base e v l) (hg : w.grownBy w' row) (hr : ∀ r, row = some r → ∃ o : Obj, w.heap[r]? = some o ∧ o.isCells = false) : OwnB w' base e v l := by
  refine World.ownsRow.kept h hg ?_
  rcases hv : v.ownBlock with _ | k
  · exact .inl rfl
  · refine .inr fun hk => ?_
    obtain ⟨cur, hc⟩ := h.spot hv
    obtain ⟨o, ho, hf⟩ := hr k hk.symm
    rw [hc] at ho
    cases ho
    simp [Obj.isCells] at hf
theorem boxed_row {w' : World} {B : Nat} {t : TypeId} {v : Value} {row : Option Nat} (h : Boxed w B t v) (hg : w.grownBy w' row) (hr : ∀ r, row = some r → ∃ o : Obj, w.heap[r]? = some o ∧ o.isCells = false) : Boxed w' B t v := by
  refine h.kept hg fun hk => ?_
  obtain ⟨o, ho, hf⟩ := hr B hk.symm
  rw [show w.heap[B]? = _ from h] at ho
  cases ho
  simp [Obj.isCells] at hf
end
theorem KeepsOthers.of_below {W W' : World} (h : Below W.heap.size W W') : KeepsOthers W W' := ⟨h.size, fun k o hk _ => (h.block k (Array.getElem?_eq_some_iff.1 hk).1).trans hk⟩

/-- A row was laid, and written. -/
theorem laid_put {W wx wy : World} {g : Nat} {t : TypeId} {z cs : Array Value} (n : NewRow W g t z wx) (p : PutRow wx g t cs wy) : Below W.heap.size W wy ∧ KeepsOthers W wy := by
  have hb : Below W.heap.size W wy := p.below n.below n.below.size (by rw [n.spot]; exact Nat.le_refl _)
  exact ⟨hb, KeepsOthers.of_below hb⟩

/-- The blocks of S are as they were. -/
def KeepsAt (S : Nat → Prop) (W W' : World) : Prop := ∀ k, S k → W'.heap[k]? = W.heap[k]?
theorem KeepsAt.refl (S : Nat → Prop) (W : World) : KeepsAt S W W := fun _ _ => rfl
theorem KeepsAt.trans {S : Nat → Prop} {A B C : World} (h : KeepsAt S A B) (k : KeepsAt S B C) : KeepsAt S A C := fun i hi => (k i hi).trans (h i hi)
theorem keepsAt_t {S : Nat → Prop} {A B C : World} (h : KeepsAt S A B) (k : KeepsAt S B C) : KeepsAt S A C := h.trans k
theorem keepsAt_b {S : Nat → Prop} {w : World} (hS : ∀ k, S k → k < w.heap.size) (W : World) (l : Nat) (o o' : Obj) (hl : w.heap.size ≤ l) (h : W.heap[l]? = some o) (_ : o.isCells = false) (_ : o.isWalk = false) : KeepsAt S W (W.putObj l o') := fun k hk =>
  (grownBy_putObj' W l o').block k (by have := (Array.getElem?_eq_some_iff.1 h).1; have := hS k hk; omega) (fun e => by cases e; have := hS _ hk; omega)
theorem KeepsAt.of_below {S : Nat → Prop} {B : Nat} {W W' : World} (h : Below B W W') (hS : ∀ k, S k → k < B) : KeepsAt S W W' := fun k hk => h.block k (hS k hk)
theorem KeepsAt.of_grown {S : Nat → Prop} {row : Option Nat} {W W' : World} (h : W.grownBy W' row) (hS : ∀ k, S k → k < W.heap.size ∧ some k ≠ row) : KeepsAt S W W' := fun k hk => h.block k (hS k hk).1 (hS k hk).2
theorem grown_of_below {W W' : World} (hb : Below W.heap.size W W') : W.grownBy W' none := ⟨hb.os, hb.tape, hb.output, hb.size, fun k hk _ => hb.block k hk⟩
end Go.Proofs.YtlifjlcfoeednaaDoor
end
section
namespace Go.Proofs.YtlifjlcfoeednaaDoor
open Go.RowKit
set_option linter.unusedVariables false
set_option maxRecDepth 20000

theorem rot_int2 (x : UInt32) (n m : Nat) (hm : m + n = 32) : bits .or .u32 ((x.toNat : Int) / 2 ^ n) ((x.toNat : Int) * 2 ^ m % 4294967296) = ((rotr x n).toNat : Int) := by
  have e1 : (x.toNat : Int) * 2 ^ m % 4294967296 = ((x.toNat * 2 ^ m % 4294967296 : Nat) : Int) := by simp
  have e2 : (x.toNat : Int) / 2 ^ n = ((x.toNat / 2 ^ n : Nat) : Int) := by simp
  rw [e1, e2, u32_or_nat _ _ (div_lt32 x n) (Nat.mod_lt _ (by omega)), rotr_toNat, Nat.or_comm, show 32 - n = m by omega]

theorem turn_any (w : World) (x : UInt32) (n : Nat) (h1 : 1 ≤ n) (h2 : n ≤ 31) :
    Calls Tryd.prog 51 #[.int .u32 (x.toNat : Int), .int .i64 (n : Int)] w fun e w' => e = .returned (.int .u32 ((rotr x n).toNat : Int)) ∧ ∃ n, w' = w.drewN n := by
  have hx := x.toNat_lt
  obtain ⟨m, hm⟩ : ∃ m, m + n = 32 := ⟨32 - n, by omega⟩
  have hs2 : IntKind.i64.wrap (32 - (n : Int)) = (m : Int) := by rw [IntWalk.i64_in _ (by omega)]; omega
  have hle : (n : Int) ≤ 32 := by omega
  go_enter Tryd.func51, Tryd.ntmps51
  go_wp2
  go_quiet (fail)
  go_wp2
  go_ret
  exact ⟨ret_int (rot_int2 x n m hm), _, rfl⟩

/-- Four bytes as a word, the highest one first. -/
def word4 (a b c d : UInt8) : UInt32 := UInt32.ofNat (((a.toNat * 256 + b.toNat) * 256 + c.toNat) * 256 + d.toNat)
theorem word4_toNat (a b c d : UInt8) : (word4 a b c d).toNat = ((a.toNat * 256 + b.toNat) * 256 + c.toNat) * 256 + d.toNat := by
  have := a.toNat_lt
  have := b.toNat_lt
  have := c.toNat_lt
  have := d.toNat_lt
  exact UInt32.toNat_ofNat_of_lt' (by show _ < 4294967296; omega)
theorem or_sum (x y n : Nat) (hy : y < 2 ^ n) : x * 2 ^ n ||| y = x * 2 ^ n + y := by
  rw [Nat.mul_comm, Nat.two_pow_add_eq_or_of_lt hy]
theorem word4_or (a b c d : UInt8) : ((a.toNat * 16777216 ||| b.toNat * 65536) ||| c.toNat * 256) ||| d.toNat = (word4 a b c d).toNat := by
  have := a.toNat_lt
  have := b.toNat_lt
  have := c.toNat_lt
  have := d.toNat_lt
  rw [word4_toNat, show a.toNat * 16777216 = a.toNat * 2 ^ 24 by omega, or_sum _ _ _ (by omega), show a.toNat * 2 ^ 24 + b.toNat * 65536 = (a.toNat * 256 + b.toNat) * 2 ^ 16 by omega, or_sum _ _ _ (by omega),
    show (a.toNat * 256 + b.toNat) * 2 ^ 16 + c.toNat * 256 = ((a.toNat * 256 + b.toNat) * 256 + c.toNat) * 2 ^ 8 by omega, or_sum _ _ _ (by omega)]
theorem wordOf_four (block : List UInt8) (k : Nat) (h : 4 * k + 4 ≤ block.length) :
    wordOf block k = word4 (block[4 * k]'(by omega)) (block[4 * k + 1]'(by omega)) (block[4 * k + 2]'(by omega)) (block[4 * k + 3]'(by omega)) := by
  have e : (block.drop (4 * k)).take 4 = [block[4 * k]'(by omega), block[4 * k + 1]'(by omega), block[4 * k + 2]'(by omega), block[4 * k + 3]'(by omega)] := by
    rw [List.drop_eq_getElem_cons (by omega), List.drop_eq_getElem_cons (by omega), List.drop_eq_getElem_cons (by omega), List.drop_eq_getElem_cons (by omega)]
    rfl
  rw [wordOf, e, word4]
  congr 1
  simp [ofHighB, ofLowB]
  omega
theorem Tryd.litsK : Value.agg #[.int .u32 1116352408, .int .u32 1899447441, .int .u32 3049323471, .int .u32 3921009573, .int .u32 961987163, .int .u32 1508970993, .int .u32 2453635748, .int .u32 2870763221, .int .u32 3624381080, .int .u32 310598401, .int .u32 607225278, .int .u32 1426881987, .int .u32 1925078388, .int .u32 2162078206, .int .u32 2614888103, .int .u32 3248222580, .int .u32 3835390401, .int .u32 4022224774, .int .u32 264347078, .int .u32 604807628, .int .u32 770255983, .int .u32 1249150122, .int .u32 1555081692, .int .u32 1996064986, .int .u32 2554220882, .int .u32 2821834349, .int .u32 2952996808, .int .u32 3210313671, .int .u32 3336571891, .int .u32 3584528711, .int .u32 113926993, .int .u32 338241895, .int .u32 666307205, .int .u32 773529912, .int .u32 1294757372, .int .u32 1396182291, .int .u32 1695183700, .int .u32 1986661051, .int .u32 2177026350, .int .u32 2456956037, .int .u32 2730485921, .int .u32 2820302411, .int .u32 3259730800, .int .u32 3345764771, .int .u32 3516065817, .int .u32 3600352804, .int .u32 4094571909, .int .u32 275423344, .int .u32 430227734, .int .u32 506948616, .int .u32 659060556, .int .u32 883997877, .int .u32 958139571, .int .u32 1322822218, .int .u32 1537002063, .int .u32 1747873779, .int .u32 1955562222, .int .u32 2024104815, .int .u32 2227730452, .int .u32 2361852424, .int .u32 2428436474, .int .u32 2756734187, .int .u32 3204031479, .int .u32 3329325298] = .agg (wordsC cubesW) := by kernel_rfl
theorem word4_bits (a b c d : UInt8) : bits .or .u32 (bits .or .u32 (bits .or .u32 (IntKind.u32.wrap (IntKind.u32.wrap (a.toNat : Int) * 16777216)) (IntKind.u32.wrap (IntKind.u32.wrap (b.toNat : Int) * 65536))) (IntKind.u32.wrap (IntKind.u32.wrap (c.toNat : Int) * 256))) (IntKind.u32.wrap (d.toNat : Int)) = ((word4 a b c d).toNat : Int) := by
  have ha := a.toNat_lt
  have hb := b.toNat_lt
  have hc := c.toNat_lt
  have hd := d.toNat_lt
  have e1 : IntKind.u32.wrap (IntKind.u32.wrap (a.toNat : Int) * 16777216) = ((a.toNat * 16777216 : Nat) : Int) := by simp only [IntKind.wrap_u32]; omega
  have e2 : IntKind.u32.wrap (IntKind.u32.wrap (b.toNat : Int) * 65536) = ((b.toNat * 65536 : Nat) : Int) := by simp only [IntKind.wrap_u32]; omega
  have e3 : IntKind.u32.wrap (IntKind.u32.wrap (c.toNat : Int) * 256) = ((c.toNat * 256 : Nat) : Int) := by simp only [IntKind.wrap_u32]; omega
  have e4 : IntKind.u32.wrap (d.toNat : Int) = (d.toNat : Int) := by simp only [IntKind.wrap_u32]; omega
  rw [e1, e2, e3, e4, u32_or_nat _ _ (by omega) (by omega), u32_or_nat _ _ (or_lt32 (by omega) (by omega)) (by omega), u32_or_nat _ _ (or_lt32 (or_lt32 (by omega) (by omega)) (by omega)) (by omega), word4_or]
theorem wrap32 (x : UInt32) : IntKind.u32.wrap (x.toNat : Int) = (x.toNat : Int) := by have := x.toNat_lt; rw [IntKind.wrap_u32]; omega
theorem sum5 (a b c d e : UInt32) : (((a.toNat : Int) + b.toNat + c.toNat + d.toNat) % 4294967296 + e.toNat) % 4294967296 = ((a + b + c + d + e).toNat : Int) := by
  simp only [UInt32.toNat_add]
  omega
theorem sum3 (a b c : UInt32) : ((a.toNat : Int) + b.toNat + c.toNat) % 4294967296 = ((a + b + c).toNat : Int) := by
  simp only [UInt32.toNat_add]
  omega
theorem movr8 (x : UInt32) : (x.toNat : Int) / 8 = ((movr x 3).toNat : Int) := by rw [movr_toNat]; simp
theorem movr1024 (x : UInt32) : (x.toNat : Int) / 1024 = ((movr x 10).toNat : Int) := by rw [movr_toNat]; simp
end Go.Proofs.YtlifjlcfoeednaaDoor
end
section
namespace Go.Proofs.YtlifjlcfoeednaaDoor
open Go.RowKit
set_option linter.unusedVariables false
set_option maxRecDepth 20000
set_option pp.deepTerms true
set_option pp.maxSteps 100000

set_option maxHeartbeats 4000000 in
theorem refBlock_any (w : World) (st : List UInt32) (block : List UInt8) (hs : st.length = 8) (hl : block.length = 64) :
    Calls Tryd.prog 44 #[.agg (wordsC st), keyV block] w (RetV w (.agg (wordsC (blockW st block)))) := by
  obtain ⟨fin, hfin⟩ : ∃ fin, fin = blockW st block := ⟨_, rfl⟩
  obtain ⟨ws, hws⟩ : ∃ ws, ws = wordsTo block 64 := ⟨_, rfl⟩
  obtain ⟨s0, hs0⟩ : ∃ s0, s0 = toE st := ⟨_, rfl⟩
  have hwl : ws.length = 64 := by rw [hws, wordsTo_length]
  have hfl : fin.length = 8 := by rw [hfin]; exact blockW_length _ _ hs
  rw [← hfin]
  have HF : Hid (fin = List.zipWith (· + ·) st (ofE (roundsE ws s0 64))) := by rw [hfin, hws, hs0]; rfl
  have HW := Lib.hid hwl
  have HWS := Lib.hid hws
  have HFL := Lib.hid hfl
  have HS := Lib.hid hs
  have HL := Lib.hid hl
  have HS0 := Lib.hid hs0
  clear hfin hws hwl hfl hs hl hs0
  go_enter Tryd.func44, Tryd.ntmps44
  go_wp2_with (first
    | ((with_reducible refine wpList_box_row (o := ⟨some 2, _, _, _, _, _⟩) rfl 90 (.tmp 0) rfl (wordsC st) (by with_unfolding_all rfl) ?_); intro g2 w2 n2)
    | ((with_reducible refine wpList_box_row (o := ⟨some 3, _, _, _, _, _⟩) rfl 96 (.tmp 1) rfl (keyC block) (by with_unfolding_all rfl) ?_); intro g3 w3 n3)
    | ((with_reducible refine wpList_alloc_row (o := ⟨some 4, _, _, _, _, _⟩) rfl 90 rfl (wordsC (List.replicate 8 0)) Tryd.zero8 ?_); intro g4 w4 n4)
    | ((with_reducible refine wpList_alloc_row (o := ⟨some 5, _, _, _, _, _⟩) rfl 99 rfl (wordsC (List.replicate 64 0)) Tryd.zero64 ?_); intro g5 w5 n5)
    | ((with_reducible refine wpList_store_row (o := ⟨none, _, _, _, _, _⟩) rfl 99 (.tmp 5) (.tmp 21) rfl g5 99 _ (wordsC cubesW) (by with_unfolding_all rfl) (by with_unfolding_all exact Tryd.litsK) n5.row (by rw [wordsC_size, wordsC_size, cubesW_length, List.length_replicate]) (Tryd.size64l cubesW cubesW_length) (wordsC_one _) ?_); intro w6 p6)
    | ((with_reducible refine wpList_alloc_row (o := ⟨some 6, _, _, _, _, _⟩) rfl 99 rfl (wordsC (List.replicate 64 0)) Tryd.zero64 ?_); intro g7 w7 n7))
  have e2 := n2.spot
  have e3 := n3.spot
  have e4 := n4.spot
  have e5 := n5.spot
  have e7 := n7.spot
  have z2 := n2.size
  have z3 := n3.size
  have z4 := n4.size
  have z5 := n5.size
  have z6 := p6.size
  have l5 := (laid_put n5 p6).1
  have B7 : Hid (Below w.heap.size w w7) := below_size (below_size (below_size (below_size n2.below n3.below) n4.below) l5) n7.below
  have R2 : Hid (RowAt w7 g2 90 (wordsC st)) := (((n2.row.kept n3.below).kept n4.below).kept l5).kept n7.below
  have R3 : Hid (RowAt w7 g3 96 (keyC block)) := ((n3.row.kept n4.below).kept l5).kept n7.below
  have R4 : Hid (RowAt w7 g4 90 (wordsC (List.replicate 8 0))) := (n4.row.kept l5).kept n7.below
  have R5 : Hid (RowAt w7 g5 99 (wordsC cubesW)) := p6.row.kept n7.below
  have R6 : Hid (RowAt w7 g7 99 (wordsC (partW block 0))) := n7.row
  have hg7 : w.heap.size ≤ g7 := by omega
  have hg4 : w.heap.size ≤ g4 := by omega
  have h27 : g2 ≠ g7 := by omega
  have h37 : g3 ≠ g7 := by omega
  have h47 : g4 ≠ g7 := by omega
  have h57 : g5 ≠ g7 := by omega
  clear n2 n3 n4 n5 p6 n7 l5 e2 e3 e4 e5 e7 z2 z3 z4 z5 z6
  go_loopw [7] (fun i wr => ∃ k : Nat, k ≤ 64 ∧ i = .int .i64 k ∧ RowAt wr g2 90 (wordsC st) ∧ RowAt wr g3 96 (keyC block) ∧ RowAt wr g4 90 (wordsC (List.replicate 8 0)) ∧ RowAt wr g5 99 (wordsC cubesW) ∧ RowAt wr g7 99 (wordsC (partW block k)) ∧ Below w.heap.size w wr) (fun i _ => 64 - (intOf i).toNat)
  case atStart => exact ⟨0, by omega, rfl, R2.out, R3.out, R4.out, R5.out, R6.out, B7.out⟩
  case round =>
    clear R2 R3 R4 R5 R6 B7
    obtain ⟨k, hk, rfl, hr2, hr3, hr4, hr5, hr6, hb⟩ := hrel
    have R2 := Lib.hid hr2
    have R3 := Lib.hid hr3
    have R4 := Lib.hid hr4
    have R5 := Lib.hid hr5
    have R6 := Lib.hid hr6
    have HB := Lib.hid hb
    clear hr2 hr3 hr4 hr5 hr6 hb
    by_cases hlt : k < 64
    · have hln := partW_length block k (by omega)
      have hcell := wordsC_cell R6.out k (by omega)
      have hfz := R6.out.frozen k
      generalize (partW block k).getD k 0 = old at hcell
      have hps := partW_step block k hlt
      by_cases h16 : k < 16
      · rw [if_pos h16, wordOf_four block k (by rw [HL.out]; omega)] at hps
        have c0 := bytesC_cell R3.out (4 * k) (by rw [HL.out]; omega)
        have c1 := bytesC_cell R3.out (4 * k + 1) (by rw [HL.out]; omega)
        have c2 := bytesC_cell R3.out (4 * k + 2) (by rw [HL.out]; omega)
        have c3 := bytesC_cell R3.out (4 * k + 3) (by rw [HL.out]; omega)
        generalize block[4 * k]'(by rw [HL.out]; omega) = b0 at c0 hps
        generalize block[4 * k + 1]'(by rw [HL.out]; omega) = b1 at c1 hps
        generalize block[4 * k + 2]'(by rw [HL.out]; omega) = b2 at c2 hps
        generalize block[4 * k + 3]'(by rw [HL.out]; omega) = b3 at c3 hps
        have hput := R6.out.put k (.int .u32 ((word4 b0 b1 b2 b3).toNat : Int))
        rw [wordsC_put, hps] at hput
        have HP := Lib.hid hput
        have y0 := b0.toNat_lt
        have y1 := b1.toNat_lt
        have y2 := b2.toNat_lt
        have y3 := b3.toNat_lt
        have q0 : (4 * (k : Int)) < 64 := by omega
        have q1 : (4 * (k : Int) + 1) < 64 := by omega
        have q2 : (4 * (k : Int) + 2) < 64 := by omega
        have q3 : (4 * (k : Int) + 3) < 64 := by omega
        have m0 : (4 * (k : Int)).toNat = 4 * k := by omega
        have m1 : (4 * (k : Int) + 1).toNat = 4 * k + 1 := by omega
        have m2 : (4 * (k : Int) + 2).toNat = 4 * k + 2 := by omega
        have m3 : (4 * (k : Int) + 3).toNat = 4 * k + 3 := by omega
        have v0 : (0 : Int) ≤ 4 * (k : Int) := by omega
        have v1 : (0 : Int) ≤ 4 * (k : Int) + 1 := by omega
        have v2 : (0 : Int) ≤ 4 * (k : Int) + 2 := by omega
        have v3 : (0 : Int) ≤ 4 * (k : Int) + 3 := by omega
        have t0 : IntKind.i64.wrap (4 * (k : Int)) = 4 * (k : Int) := IntWalk.i64_in _ (by omega)
        have t1 : IntKind.i64.wrap (4 * (k : Int) + 1) = 4 * (k : Int) + 1 := IntWalk.i64_in _ (by omega)
        have t2 : IntKind.i64.wrap (4 * (k : Int) + 2) = 4 * (k : Int) + 2 := IntWalk.i64_in _ (by omega)
        have t3 : IntKind.i64.wrap (4 * (k : Int) + 3) = 4 * (k : Int) + 3 := IntWalk.i64_in _ (by omega)
        have q4 : (k : Int) < 64 := by omega
        clear hput hps hln
        go_wp2_with fail
        go_still_tail 31, (by kernel_rfl)
        rw [word4_bits]
        change wpList _ _ _ _ _ wr.drew
        clear c0 c1 c2 c3 m0 m1 m2 m3 t0 t1 t2 t3 v0 v1 v2 v3
        go_wp2
        go_roundw
        case rel => exact ⟨k + 1, by omega, by go_num, (R2.out.far h27 _).drew, (R3.out.far h37 _).drew, (R4.out.far h47 _).drew, (R5.out.far h57 _).drew, HP.out.drew, (HB.out.setCell hg7 _).drew⟩
        case measure => simp [intOf]; omega
      · rw [if_neg h16] at hps
        obtain ⟨p1, hp1⟩ : ∃ p, p + 16 = k := ⟨k - 16, by omega⟩
        obtain ⟨p2, hp2⟩ : ∃ p, p + 15 = k := ⟨k - 15, by omega⟩
        obtain ⟨p3, hp3⟩ : ∃ p, p + 7 = k := ⟨k - 7, by omega⟩
        obtain ⟨p4, hp4⟩ : ∃ p, p + 2 = k := ⟨k - 2, by omega⟩
        have hs1 : IntKind.i64.wrap ((k : Int) - 16) = (p1 : Int) := by rw [IntWalk.i64_in _ (by omega)]; omega
        have hs2 : IntKind.i64.wrap ((k : Int) - 15) = (p2 : Int) := by rw [IntWalk.i64_in _ (by omega)]; omega
        have hs3 : IntKind.i64.wrap ((k : Int) - 7) = (p3 : Int) := by rw [IntWalk.i64_in _ (by omega)]; omega
        have hs4 : IntKind.i64.wrap ((k : Int) - 2) = (p4 : Int) := by rw [IntWalk.i64_in _ (by omega)]; omega
        have i2 : (k : Int) - 15 = (p2 : Int) := by omega
        have i4 : (k : Int) - 2 = (p4 : Int) := by omega
        have hc1 := wordsC_cell R6.out p1 (by omega)
        have hc2 := wordsC_cell R6.out p2 (by omega)
        have hc3 := wordsC_cell R6.out p3 (by omega)
        have hc4 := wordsC_cell R6.out p4 (by omega)
        rw [partW_get _ _ _ (by omega)] at hc1 hc2 hc3 hc4
        rw [nextW, show k - 16 = p1 by omega, show k - 15 = p2 by omega, show k - 7 = p3 by omega, show k - 2 = p4 by omega] at hps
        generalize (wordsTo block k).getD p1 0 = x1 at hc1 hps
        generalize (wordsTo block k).getD p2 0 = x2 at hc2 hps
        generalize (wordsTo block k).getD p3 0 = x3 at hc3 hps
        generalize (wordsTo block k).getD p4 0 = x4 at hc4 hps
        obtain ⟨xs, hxs⟩ : ∃ xs, xs = x1 + smallS x2 7 18 3 + x3 + smallS x4 17 19 10 := ⟨_, rfl⟩
        have HXS := Lib.hid hxs
        have hput := fun n => (R6.out.drewN n).put k (.int .u32 (xs.toNat : Int))
        simp only [wordsC_put, hxs] at hput
        rw [hps, ← hxs] at hput
        have HP := Lib.hid hput
        have hq1 : (p1 : Int) < 64 := by omega
        have hq2 : (p2 : Int) < 64 := by omega
        have hq3 : (p3 : Int) < 64 := by omega
        have hq4 : (p4 : Int) < 64 := by omega
        have hq5 : (k : Int) < 64 := by omega
        have b2 := x2.toNat_lt
        have b4 := x4.toNat_lt
        clear hxs hps hput hln hp1 hp2 hp3 hp4
        go_wp2_with fail
        clear i2 i4
        refine region_quiet_tail 29 (by kernel_rfl) (by kernel_rfl) ?_
        simp only [List.take_succ_cons, List.take_zero, List.drop_succ_cons, List.drop_zero]
        repeat (quiet_step (first
          | ((with_reducible refine Calls.quiet_of (turn_any _ x2 7 (by omega) (by omega))))
          | ((with_reducible refine Calls.quiet_of (turn_any _ x2 18 (by omega) (by omega))))
          | ((with_reducible refine Calls.quiet_of (turn_any _ x4 17 (by omega) (by omega))))
          | ((with_reducible refine Calls.quiet_of (turn_any _ x4 19 (by omega) (by omega))))))
        refine wpQuiet_nil ?_
        rintro w' ⟨nq, rfl⟩
        simp only [movr8, movr1024, wrap32, xor32, add32]
        rw [show x1 + (rotr x2 7 ^^^ rotr x2 18 ^^^ movr x2 3) + x3 + (rotr x4 17 ^^^ rotr x4 19 ^^^ movr x4 10) = xs from HXS.out.symm]
        clear hc1 hc2 hc3 hc4 hs1 hs2 hs3 hs4
        have hcell2 : (wr.drewN nq).cell? ⟨g7, k, none⟩ = some (.int .u32 (old.toNat : Int)) := hcell
        have hfz2 : (wr.drewN nq).frozen? ⟨g7, k, none⟩ = false := hfz
        go_wp2
        go_roundw
        case rel => exact ⟨k + 1, by omega, by go_num, (R2.out.drewN nq).far h27 _, (R3.out.drewN nq).far h37 _, (R4.out.drewN nq).far h47 _, (R5.out.drewN nq).far h57 _, HP.out nq, (below_drewN HB.out nq).setCell hg7 _⟩
        case measure => simp [intOf]; omega
    · have hk64 : k = 64 := by omega
      have R6b : Hid (RowAt wr g7 99 (wordsC ws)) := by
        have := R6.out
        rw [hk64, partW, Nat.sub_self, List.replicate_zero, List.append_nil, ← HWS.out] at this
        exact this
      clear R6 R3 hk64
      have E0 : Hid (st.getD 0 0 = s0.a ∧ st.getD 1 0 = s0.b ∧ st.getD 2 0 = s0.c ∧ st.getD 3 0 = s0.d ∧ st.getD 4 0 = s0.e ∧ st.getD 5 0 = s0.f ∧ st.getD 6 0 = s0.g ∧ st.getD 7 0 = s0.h) := by
        rw [HS0.out]; exact ⟨rfl, rfl, rfl, rfl, rfl, rfl, rfl, rfl⟩
      have c0 := wordsC_cell R2.out 0 (by rw [HS.out]; omega)
      have c1 := wordsC_cell R2.out 1 (by rw [HS.out]; omega)
      have c2 := wordsC_cell R2.out 2 (by rw [HS.out]; omega)
      have c3 := wordsC_cell R2.out 3 (by rw [HS.out]; omega)
      have c4 := wordsC_cell R2.out 4 (by rw [HS.out]; omega)
      have c5 := wordsC_cell R2.out 5 (by rw [HS.out]; omega)
      have c6 := wordsC_cell R2.out 6 (by rw [HS.out]; omega)
      have c7 := wordsC_cell R2.out 7 (by rw [HS.out]; omega)
      rw [E0.out.1] at c0
      rw [E0.out.2.1] at c1
      rw [E0.out.2.2.1] at c2
      rw [E0.out.2.2.2.1] at c3
      rw [E0.out.2.2.2.2.1] at c4
      rw [E0.out.2.2.2.2.2.1] at c5
      rw [E0.out.2.2.2.2.2.2.1] at c6
      rw [E0.out.2.2.2.2.2.2.2] at c7
      go_wp2
      have C0 := Lib.hid (And.intro c0 (And.intro c1 (And.intro c2 (And.intro c3 (And.intro c4 (And.intro c5 (And.intro c6 c7)))))))
      clear c0 c1 c2 c3 c4 c5 c6 c7
      rename World => w8
      go_loopw [10, 11, 12, 13, 14, 15, 16, 17, 18] (fun a b c d e f g h i wx => ∃ (k n : Nat) (s : Eight8), k ≤ 64 ∧ i = .int .i64 k ∧ s = roundsE ws s0 k ∧ a = .int .u32 (s.a.toNat : Int) ∧ b = .int .u32 (s.b.toNat : Int) ∧ c = .int .u32 (s.c.toNat : Int) ∧ d = .int .u32 (s.d.toNat : Int) ∧ e = .int .u32 (s.e.toNat : Int) ∧ f = .int .u32 (s.f.toNat : Int) ∧ g = .int .u32 (s.g.toNat : Int) ∧ h = .int .u32 (s.h.toNat : Int) ∧ wx = w8.drewN n) (fun _ _ _ _ _ _ _ _ i _ => 64 - (intOf i).toNat)
      case atStart => exact ⟨0, 0, s0, by omega, rfl, rfl, rfl, rfl, rfl, rfl, rfl, rfl, rfl, rfl, rfl⟩
      case round =>
        rename_i k0 _ _ _ _
        obtain ⟨k, n, s, hk, rfl, hs, rfl, rfl, rfl, rfl, rfl, rfl, rfl, rfl, hwx⟩ := hrel
        rename World => wx
        have HWX := Lib.hid hwx
        have HSS := Lib.hid hs
        by_cases hlt : k < 64
        · have ck : wx.cell? ⟨g5, k, none⟩ = some (.int .u32 ((cubesW.getD k 0).toNat : Int)) := by rw [hwx]; exact wordsC_cell R5.out k (by rw [cubesW_length]; exact hlt)
          have cw : wx.cell? ⟨g7, k, none⟩ = some (.int .u32 ((ws.getD k 0).toNat : Int)) := by rw [hwx]; exact wordsC_cell R6b.out k (by rw [HW.out]; exact hlt)
          have HSN : Hid (roundsE ws s0 (k + 1) = stepE s (cubesW.getD k 0) (ws.getD k 0)) := by rw [hs]; rfl
          generalize cubesW.getD k 0 = kk at ck HSN
          generalize ws.getD k 0 = ww at cw HSN
          have hq : (k : Int) < 64 := by omega
          have hea := s.a.toNat_lt
          have heb := s.e.toNat_lt
          have hne : IntKind.u32.wrap (4294967295 - (s.e.toNat : Int)) = ((4294967295 - s.e).toNat : Int) := by rw [← not32, IntKind.wrap_u32]; omega
          clear hwx hs
          go_wp2_with fail
          go_quiet (first
            | ((with_reducible refine Calls.quiet_of (turn_any _ s.e 6 (by omega) (by omega))))
            | ((with_reducible refine Calls.quiet_of (turn_any _ s.e 11 (by omega) (by omega))))
            | ((with_reducible refine Calls.quiet_of (turn_any _ s.e 25 (by omega) (by omega)))))
          obtain ⟨t1, ht1⟩ : ∃ t1, s.h + bigS s.e 6 11 25 + ((s.e &&& s.f) ^^^ ((4294967295 - s.e) &&& s.g)) + kk + ww = t1 := ⟨_, rfl⟩
          simp only [and32, xor32, sum5]
          rw [show s.h + (rotr s.e 6 ^^^ rotr s.e 11 ^^^ rotr s.e 25) + ((s.e &&& s.f) ^^^ ((4294967295 - s.e) &&& s.g)) + kk + ww = t1 from ht1]
          have HT1 := Lib.hid ht1
          clear ht1 ck cw heb hne
          go_wp2_with fail
          refine (turn_any _ s.a 2 (by omega) (by omega)).mono ?_
          intro e x h
          obtain ⟨he, m1, hx⟩ := h
          subst he hx
          go_wp2_with fail
          refine (turn_any _ s.a 13 (by omega) (by omega)).mono ?_
          intro e x h
          obtain ⟨he, m2, hx⟩ := h
          subst he hx
          go_wp2_with fail
          refine (turn_any _ s.a 22 (by omega) (by omega)).mono ?_
          intro e x h
          obtain ⟨he, m3, hx⟩ := h
          subst he hx
          go_wp2_with fail
          go_roundw
          case rel =>
            refine ⟨k + 1, n + (nq + m1 + m2 + m3), stepE s kk ww, by omega, by go_num, HSN.out.symm, ?_, rfl, rfl, rfl, ?_, rfl, rfl, rfl, by rw [HWX.out, World.drewN_drewN]⟩
            · show Value.int IntKind.u32 _ = Value.int IntKind.u32 ((tOne s kk ww + tTwo s).toNat : Int)
              rw [show tOne s kk ww = t1 from HT1.out]
              simp only [and32, xor32, tTwo, bigS, UInt32.toNat_add]
              refine congrArg (Value.int IntKind.u32) ?_
              omega
            · show Value.int IntKind.u32 _ = Value.int IntKind.u32 ((s.d + tOne s kk ww).toNat : Int)
              rw [show tOne s kk ww = t1 from HT1.out]
              simp only [UInt32.toNat_add]
              refine congrArg (Value.int IntKind.u32) ?_
              omega
          case measure => simp [intOf]; omega
        · have hk64 : k = 64 := by omega
          rw [hk64] at hs
          have HE : Hid (fin = [s0.a + s.a, s0.b + s.b, s0.c + s.c, s0.d + s.d, s0.e + s.e, s0.f + s.f, s0.g + s.g, s0.h + s.h]) := by
            show _ = _
            rw [HF.out, ← hs]
            have e8 : st = [s0.a, s0.b, s0.c, s0.d, s0.e, s0.f, s0.g, s0.h] := by
              obtain ⟨e0, e1, e2, e3, e4, e5, e6, e7⟩ := E0.out
              rw [← e0, ← e1, ← e2, ← e3, ← e4, ← e5, ← e6, ← e7]
              have h8 := HS.out
              match st, h8 with
              | [_, _, _, _, _, _, _, _], _ => rfl
            rw [e8]
            rfl
          have c0 := C0.out.1
          have c1 := C0.out.2.1
          have c2 := C0.out.2.2.1
          have c3 := C0.out.2.2.2.1
          have c4 := C0.out.2.2.2.2.1
          have c5 := C0.out.2.2.2.2.2.1
          have c6 := C0.out.2.2.2.2.2.2.1
          have c7 := C0.out.2.2.2.2.2.2.2
          have R4x : Hid (RowAt wx g4 90 (wordsC (List.replicate 8 0))) := by rw [hwx]; exact R4.out.drewN n
          have BX : Hid (Below w.heap.size w wx) := by rw [hwx]; exact below_drewN HB.out n
          have hsz : w.heap.size ≤ wx.heap.size := BX.out.size
          clear C0 hk64 hs HSS HF R2 R4 R5 R6b HB
          subst hwx
          have HV : Hid (Value.agg #[.int .u32 (((s0.a.toNat : Int) + (s.a.toNat : Int)) % 4294967296), .int .u32 (((s0.b.toNat : Int) + (s.b.toNat : Int)) % 4294967296), .int .u32 (((s0.c.toNat : Int) + (s.c.toNat : Int)) % 4294967296), .int .u32 (((s0.d.toNat : Int) + (s.d.toNat : Int)) % 4294967296), .int .u32 (((s0.e.toNat : Int) + (s.e.toNat : Int)) % 4294967296), .int .u32 (((s0.f.toNat : Int) + (s.f.toNat : Int)) % 4294967296), .int .u32 (((s0.g.toNat : Int) + (s.g.toNat : Int)) % 4294967296), .int .u32 (((s0.h.toNat : Int) + (s.h.toNat : Int)) % 4294967296)] = .agg (wordsC fin)) := by
            show _ = _
            rw [HE.out]
            simp only [add32m]
            rfl
          clear HE
          go_wp2_with ((with_reducible refine wpList_store_row (o := ⟨none, _, _, _, _, _⟩) rfl 90 (.tmp 4) (.tmp 207) rfl g4 90 _ (wordsC fin) (by with_unfolding_all rfl) (by with_unfolding_all exact HV.out) R4x.out (by rw [wordsC_size, wordsC_size, HFL.out, List.length_replicate]) (Tryd.size8l fin HFL.out) (wordsC_one fin) ?_); intro w9 p9)
          refine bodyPost_ret (results_cell_row rfl _ _ g4 90 (wordsC fin) (0, 0) (.array 8 25) rfl p9.row Tryd.underlying90 rfl (Tryd.size8l fin HFL.out)) rfl ⟨rfl, ?_⟩
          exact p9.below BX.out hsz hg4
end Go.Proofs.YtlifjlcfoeednaaDoor
end
section
namespace Go.Proofs.YtlifjlcfoeednaaDoor
open Go.RowKit
set_option linter.unusedVariables false
set_option maxRecDepth 20000



set_option maxHeartbeats 400000 in
theorem High_in (w : World) (n s : Nat) (hn : n < 18446744073709551616) (hs1 : 1 ≤ s) (hs2 : s ≤ 8) :
    Calls Tryd.prog 23 #[.int .u64 (n : Int), .int .i64 (s : Int)] w (RetBs w (lowB n s).reverse) := by
  obtain ⟨i0, hi, hz0, hz1, hz2⟩ := info_parts Tryd.infoB
  have hlen : (lowB n s).reverse.length = s := by rw [List.length_reverse, lowB_length]
  have HL := Lib.hid hlen
  clear hlen
  go_enter Tryd.func23, Tryd.ntmps23
  go_wp2_with (first
    | (go_at_call 30; refine (fits_yes _ _ (by omega) (by omega)).mono ?_; rintro e w' ⟨rfl, rfl⟩)
    | (refine wpList_make_full _ rfl (.tmp 10) (.tmp 10) 22 rfl w.heap.size 5 i0 (.int .u8 0) 1 Tryd.underlying22 hi hz0 hz1 .i64 .i64 _ _ s rfl rfl rfl rfl (by rw [hz2]; omega) (by unfold maxLen; omega) (Nat.le_refl _) ?_; intro w1 hown hgrow))
  rw [made_zeros] at hown
  have hown0 : w1.ownsRow w.heap.size 5 1 (.slice (some ⟨w.heap.size, 0, none⟩) s s) s (cellsB (partlyR (lowB n s).reverse 0)) := by
    rw [partlyR_zero, HL.out]; exact hown
  have hbel : Below w.heap.size w w1 := (Below.refl _ _).grown hgrow (Nat.le_refl _) (fun k h => by cases h)
  clear hown hgrow
  go_loopw [13] (fun i wr => ∃ k : Nat, k ≤ s ∧ i = .int .i64 k ∧ wr.ownsRow w.heap.size 5 1 (.slice (some ⟨w.heap.size, 0, none⟩) s s) s (cellsB (partlyR (lowB n s).reverse k)) ∧ Below w.heap.size w wr) (fun i _ => s - (intOf i).toNat)
  case atStart => exact ⟨0, Nat.zero_le _, rfl, hown0, hbel⟩
  case round =>
    obtain ⟨k, hk, rfl, hown, hb⟩ := hrel
    clear hown0 hbel
    by_cases hlt : k < s
    · obtain ⟨old, hcell⟩ := own_some hown (s - 1 - k) (by omega)
      have hfz := hown.frozenAt (s - 1 - k)
      have hput := own_put hown (s - 1 - k) (byteN n k)
      have hstep := partlyR_step (lowB n s).reverse k (by rw [HL.out]; omega)
      have hget : (lowB n s).reverse[(lowB n s).reverse.length - 1 - k]'(by rw [HL.out]; omega) = byteN n k := by
        rw [List.getElem_reverse]
        have e : (lowB n s).length - 1 - ((lowB n s).reverse.length - 1 - k) = k := by rw [HL.out, lowB_length]; omega
        simp only [e]
        simp [lowB]
      rw [hget, HL.out] at hstep
      rw [hstep] at hput
      have HP := Lib.hid hput
      have HG := Lib.hid hown
      have HB := Lib.hid hb
      clear hput hown hget hb hstep
      go_wp2_with (go_at_call 31; refine (byteAt_any _ n k hn (by omega)).mono ?_; rintro e w' ⟨rfl, rfl⟩)
      go_roundw
      case rel => exact ⟨k + 1, by omega, by go_num, HP.out, HB.out.setCell (by simp) _⟩
      case measure => simp [intOf]; omega
    · have hks : k = s := by omega
      subst hks
      have hown2 : wr.ownsRow w.heap.size 5 1 (.slice (some ⟨w.heap.size, 0, none⟩) k k) k (cellsB (lowB n k).reverse) := by
        have := partlyR_all (lowB n k).reverse; rw [HL.out] at this; rwa [this] at hown
      have HO := Lib.hid hown2
      have HB := Lib.hid hb
      clear hown2 hown hb
      go_wp2
      go_ret
      exact ⟨_, rfl, Bs.of_own HO.out, HB.out⟩

theorem High_out (w : World) (n : Nat) (s : Int) (h : s < 1 ∨ 8 < s) :
    Calls Tryd.prog 23 #[.int .u64 (n : Int), .int .i64 s] w (RetBs w []) := by
  go_enter Tryd.func23, Tryd.ntmps23
  go_wp2_with (go_at_call 30; refine (fits_no _ _ h).mono ?_; rintro e w' ⟨rfl, rfl⟩)
  go_ret
  exact ⟨_, rfl, Bs.nil _, Below.refl _ _⟩

theorem High_any (w : World) (n : Nat) (hn : n < 18446744073709551616) (s : Int) :
    Calls Tryd.prog 23 #[.int .u64 (n : Int), .int .i64 s] w (RetBs w (highI n s)) := by
  unfold highI
  by_cases h : s < 1 ∨ 8 < s
  · rw [lowI_out n s h]
    exact High_out w n s h
  · obtain ⟨t, rfl⟩ := Int.eq_ofNat_of_zero_le (a := s) (by omega)
    rw [lowI_in n t (by omega) (by omega)]
    exact High_in w n t hn (by omega) (by omega)

set_option maxHeartbeats 400000 in
theorem refLow_any (w : World) (n : Nat) (hn : n < 18446744073709551616) (s : Int) (hs : -9223372036854775808 ≤ s ∧ s ≤ 9223372036854775807) :
    Calls Tryd.prog 35 #[.int .u64 (n : Int), .int .i64 s] w (RetBs w (lowI n s)) := by
  obtain ⟨i0, hi, hz0, hz1, hz2⟩ := info_parts Tryd.infoB
  by_cases h8 : 8 < s
  · rw [lowI_out n s (by omega)]
    go_enter Tryd.func35, Tryd.ntmps35
    go_wp2
    go_ret
    exact ⟨_, rfl, Bs.nil _, Below.refl _ _⟩
  · have hlo : lowI n s = lowB n s.toNat := by
      by_cases h : s < 1
      · rw [lowI_out n s (by omega), show s.toNat = 0 by omega, lowB_zero]
      · unfold lowI; rw [if_pos ⟨by omega, by omega⟩]
    rw [hlo]
    clear hlo
    go_enter Tryd.func35, Tryd.ntmps35
    go_wp2
    go_loopw [0, 5, 6] (fun m v i wr => ∃ k q : Nat, k ≤ s.toNat ∧ q = n / 256 ^ k ∧ m = .int .u64 (q : Int) ∧ i = .int .i64 k ∧ OwnB wr w.heap.size 5 v (lowB n k) ∧ Below w.heap.size w wr) (fun _ _ i _ => s.toNat - (intOf i).toNat)
    case atStart => exact ⟨0, n, Nat.zero_le _, by simp, rfl, rfl, OwnB.nil _ _ _, Below.refl _ _⟩
    case round =>
      obtain ⟨k, q, hk, hq, rfl, rfl, hown, hb⟩ := hrel
      have hqn : q < 18446744073709551616 := by rw [hq]; exact Nat.lt_of_le_of_lt (Nat.div_le_self _ _) hn
      have hbi : (q : Int) % 256 = ((byteN n k).toNat : Int) := by rw [byteN_toNat, hq]; omega
      have hqd : q / 256 = n / 256 ^ (k + 1) := by rw [hq, Nat.div_div_eq_div_mul, Nat.pow_succ]
      have HQ := Lib.hid hqd
      have HB := Lib.hid hb
      have HI := Lib.hid hbi
      have HO := Lib.hid hown
      have hsz := hb.size
      clear hq hb hbi hqd hown
      by_cases hlt : (k : Int) < s
      · go_wp2_with (at_builtin; refine wpList_appB _ rfl (.tmp 15) (.tmp 19) 22 rfl w 5 Tryd.infoB Tryd.underlying22 _ _ _ [byteN n k] rfl rfl (HO.out.alloc _) (Bs.lit1 _ _ _ _ HI.out) (by rw [lowB_length]; simp; omega) (HB.out.alloc hsz _) ?_; intro v1 w1 hown1 hb1)
        go_roundw
        case rel => exact ⟨k + 1, q / 256, by omega, HQ.out, by go_num, by go_num, by rw [lowB_succ]; exact hown1, hb1⟩
        case measure => simp [intOf]; omega
      · have hks : k = s.toNat := by omega
        subst hks
        go_wp2
        go_ret
        exact ⟨_, rfl, HO.out.bs, HB.out⟩

set_option maxHeartbeats 400000 in
theorem refHigh_any (w : World) (n : Nat) (hn : n < 18446744073709551616) (s : Int) (hs : -9223372036854775808 ≤ s ∧ s ≤ 9223372036854775807) :
    Calls Tryd.prog 25 #[.int .u64 (n : Int), .int .i64 s] w (RetBs w (highI n s)) := by
  unfold highI
  have hlen := lowI_length n s
  have hc := fun w => refLow_any w n hn s hs
  generalize lowI n s = l at hlen hc ⊢
  have HC := Lib.hid hc
  clear hc
  go_enter Tryd.func25, Tryd.ntmps25
  go_wp2_with (go_at_call 35; refine (HC.out _).mono ?_; rintro e w1 ⟨_, rfl, ⟨A, c, rfl, h1, h2, h3⟩, hb0⟩)
  have HB0 := Lib.hid hb0
  unfold maxLen at h2
  clear hb0
  go_loopw [6, 7] (fun v i wr => ∃ k : Nat, k ≤ l.length ∧ i = .int .i64 ((l.length : Int) - 1 - k) ∧ OwnB wr w1.heap.size 5 v (l.reverse.take k) ∧ Below w1.heap.size w1 wr) (fun _ i _ => (intOf i + 1).toNat)
  case atStart => exact ⟨0, Nat.zero_le _, by simp, OwnB.nil _ _ _, Below.refl _ _⟩
  case round =>
    obtain ⟨k, hk, rfl, hown, hb⟩ := hrel
    have HO := Lib.hid hown
    have HB := Lib.hid hb
    have hsz := hb.size
    clear hown hb
    by_cases hlt : k < l.length
    · obtain ⟨b0, o0, rfl, hc⟩ := h3 (by omega)
      have hcell : wr.cell? ⟨b0, o0 + (l.length - 1 - k), none⟩ = some (.int .u8 ((l[l.length - 1 - k]'(by omega)).toNat : Int)) :=
        (HB.out.cell (p := ⟨b0, o0 + (l.length - 1 - k), none⟩) (World.block_lt_of_cell? w1 _ (hc (l.length - 1 - k) (by omega)))).trans (hc (l.length - 1 - k) (by omega))
      have htk : l.reverse.take (k + 1) = l.reverse.take k ++ [l[l.length - 1 - k]'(by omega)] := by
        rw [List.take_succ_eq_append_getElem (by simpa using hlt), List.getElem_reverse]
      have HT := Lib.hid htk
      clear htk hc h3
      go_wp2_with (at_builtin; refine wpList_appB _ rfl (.tmp 18) (.tmp 23) 22 rfl w1 5 Tryd.infoB Tryd.underlying22 _ _ _ [l[l.length - 1 - k]'(by omega)] rfl rfl (HO.out.alloc _) (Bs.lit1 _ _ _ _ rfl) (by simp; omega) (HB.out.alloc hsz _) ?_; intro v2 w2 hown2 hb2)
      go_roundw
      case rel => exact ⟨k + 1, by omega, by go_num, by rw [HT.out]; exact hown2, hb2⟩
      case measure => simp [intOf]; omega
    · have hks : k = l.length := by omega
      subst hks
      have HO2 : Hid (OwnB wr w1.heap.size 5 u6 l.reverse) := by
        have := HO.out; rwa [List.take_of_length_le (by simp)] at this
      go_wp2
      go_ret
      exact ⟨_, rfl, HO2.out.bs, below_size HB0.out HB.out⟩
end Go.Proofs.YtlifjlcfoeednaaDoor
end
section
namespace Go.Proofs.YtlifjlcfoeednaaDoor
open Go.RowKit
set_option linter.unusedVariables false
set_option maxRecDepth 20000

theorem Pad_neg (w : World) (n : Int) (h : n < 0) :
    Calls Tryd.prog 38 #[.int .i64 n] w (RetBs w []) := by
  have hd : decide (n < 0) = true := by simp; omega
  go_enter Tryd.func38, Tryd.ntmps38
  go_wp2
  go_ret
  exact ⟨_, rfl, Bs.nil _, Below.refl _ _⟩

theorem pad_spliced (n z m y p : Nat) (hz : (119 - n % 64) % 64 = z) (hm : m = z + 9) (hy : y = z + 1) (hp : p = 8 * n % 18446744073709551616) :
    ((List.replicate m (0 : UInt8)).set 0 128).take y ++ (lowB p 8).reverse ++ ((List.replicate m (0 : UInt8)).set 0 128).drop (y + (lowB p 8).reverse.length) = padB n := by
  subst hm hy
  rw [List.drop_of_length_le (by simp [lowB_length]), padB, hz, ← hp, show z + 9 = (z + 8) + 1 by omega, List.replicate_succ, List.set_cons_zero, List.take_succ_cons, List.take_replicate, Nat.min_eq_left (by omega)]
  simp

theorem eight_mul (n : Nat) (hn : n ≤ 9223372036854775807) : IntKind.u64.wrap (8 * IntKind.u64.wrap (n : Int)) = ((8 * n % 18446744073709551616 : Nat) : Int) := by
  rw [IntKind.wrap_u64, IntKind.wrap_u64]
  omega

set_option maxHeartbeats 1000000 in
theorem Pad_any (w : World) (n : Nat) (hn : n ≤ 9223372036854775807) :
    Calls Tryd.prog 38 #[.int .i64 (n : Int)] w (RetBs w (padB n)) := by
  obtain ⟨i0, hi, hz0, hz1, hz2⟩ := info_parts Tryd.infoB
  have hd : decide ((n : Int) < 0) = false := by simp
  obtain ⟨z, hz⟩ : ∃ z, (119 - n % 64) % 64 = z := ⟨_, rfl⟩
  have hzlt : z < 64 := by omega
  obtain ⟨m, hm⟩ : ∃ m, m = z + 9 := ⟨_, rfl⟩
  have e1 : (119 - (n : Int)) % 64 = (z : Int) := by omega
  have e2 : (119 - (n : Int) % 64) % 64 = (z : Int) := by omega
  have e3 : 1 + (z : Int) + 8 = (m : Int) := by omega
  have e4 : (z : Int) + 9 = (m : Int) := by omega
  obtain ⟨p, hp⟩ : ∃ p, p = 8 * n % 18446744073709551616 := ⟨_, rfl⟩
  have hplt : p < 18446744073709551616 := by omega
  have e5 := eight_mul n hn
  rw [← hp] at e5
  have HZ := Lib.hid hz
  have HM := Lib.hid hm
  have HP := Lib.hid hp
  have hmlt : m < 73 := by omega
  have e6 : 1 + (z : Int) ≤ (m : Int) := by omega
  clear hz hm hp
  go_enter Tryd.func38, Tryd.ntmps38
  go_wp2_with (with_reducible refine wpList_make_full (o := ⟨some 14, _, _, _, _, _⟩) _ rfl (.tmp 13) (.tmp 13) 22 rfl w.heap.size 5 i0 (.int .u8 0) 1 Tryd.underlying22 hi hz0 hz1 .i64 .i64 _ _ m (by with_unfolding_all rfl) (by with_unfolding_all rfl) (by omega) (by omega) (by rw [hz2]; omega) (by unfold maxLen; omega) (Nat.le_refl _) ?_; intro w1 hown hgrow; rw [made_zeros] at hown; have hc := own_cell hown 0 (by simp; omega); have hf := hown.frozenAt 0)
  have hB1 : Below w.heap.size w w1 := (Below.refl _ _).grown hgrow (Nat.le_refl _) (fun k e => by cases e)
  have hB2 := hB1.setCell (p := ⟨w.heap.size, 0, none⟩) (Nat.le_refl _) (.int .u8 128)
  have hrow := (own_row hown).put 0 (.int .u8 ((128 : UInt8).toNat : Int))
  rw [bytesC_put] at hrow
  change RowAt (w1.setCell ⟨w.heap.size, 0, none⟩ (.int .u8 128)) _ _ _ at hrow
  clear hown hgrow hc hf hB1
  generalize w1.setCell ⟨w.heap.size, 0, none⟩ (.int .u8 128) = w2 at hrow hB2 ⊢
  obtain ⟨y, hy⟩ : ∃ y, y = z + 1 := ⟨_, rfl⟩
  have hne : ¬ m = y := by have := HM.out; omega
  have hyl : (y : Int) ≤ (m : Int) := by have := HM.out; omega
  have e8 : IntKind.i64.wrap (1 + (z : Int)) = (y : Int) := by rw [IntWalk.i64_in _ (by omega)]; omega
  have HY := Lib.hid hy
  clear hy
  have HR := Lib.hid hrow
  have HB := Lib.hid hB2
  have hsz := hB2.size
  clear hrow hB2
  go_region_law (first
    | (go_simp; go_at_call 23; refine (High_in _ p 8 hplt (by omega) (by omega)).mono ?_; rintro e w3 ⟨_, rfl, hbs, b3⟩; have HS := Lib.hid hbs; obtain ⟨A, c, rfl, h1, h2, h3⟩ := hbs; clear h1 h2 h3)
    | (refine step_copy_splice rfl (.tmp 20) (.tmp 24) 22 22 rfl 5 Tryd.underlying22 Tryd.sizeB (some ⟨w.heap.size, y, none⟩) A (m - y) (m - y) (lowB p 8).reverse.length c rfl rfl w.heap.size y (cellsB ((List.replicate m 0).set 0 128)) 5 (HR.out.drew.kept b3) (cellsB (lowB p 8).reverse) (by rw [cellsB_length, List.length_reverse, lowB_length, HM.out, HY.out]; show 8 = min 8 _; omega) (copy_from HS.out) (by rw [cellsB_length, cellsB_length, List.length_reverse, lowB_length, List.length_set, List.length_replicate, HM.out, HY.out]; omega) (cellsB_one _) w.heap.size w (below_size HB.out.drew b3) (Nat.le_refl _) ?_; intro w4 hr4 hb4))
  have hr5 := hr4.out
  rw [splice_bytes, pad_spliced n z m y p HZ.out HM.out HY.out HP.out] at hr5
  have HR5 : Hid (RowAt w4 w.heap.size 5 (keyC (padB n))) := hr5
  clear hr5 hr4
  have HL : Hid (m = (padB n).length) := by
    show m = _
    rw [padB_length, HZ.out, HM.out]
    omega
  have HB4 := Lib.hid hb4
  clear hb4
  go_wp2
  go_ret
  refine ⟨_, rfl, ?_, HB4.out⟩
  rw [HL.out]
  exact row_bs HR5.out (by rw [← HL.out]; unfold maxLen; omega)
end Go.Proofs.YtlifjlcfoeednaaDoor
end
