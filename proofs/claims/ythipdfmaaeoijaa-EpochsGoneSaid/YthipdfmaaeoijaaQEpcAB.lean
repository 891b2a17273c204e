/-
  Texts that belong together, merged: Round, Held, Env, EnvS, EnvT. Conditions: as each theorem names them.
-/
import Derived.Test.YthipdfmaaeoijaaQEpcAA
import Derived.Deep.RegionHeld
import Derived.RangeFuncNested
import Derived.RangeFuncBound
import Derived.RangeFuncCalls
import Derived.RangeFuncLeaves
import Derived.Shelf.Abstract
import Derived.Shelf.RegionOpen
import Derived.OwnWalkIn
import Derived.TacticsInMore
import Derived.LoopNIn
import Derived.LoopIn
import Derived.Deep.MidRow
section
namespace Go.Proofs.Ythipdfmaaeoijaa
open Go.RowKit Go.Shelf
set_option linter.unusedVariables false

section
variable {P : Program} {ops : Array Oper} {Q : Exit → Act → World → Prop} {md : Region.Mode}

theorem oper_round {o : Oper} {a : Act} {w : World} {K : Act → World → Prop} (l n : Nat) (hd : ∀ c, o.op ≠ .defer c) (h : o.wp P a w K Q) : o.wpIn (Fence.wide.inRound l) n P a w K Q := by
  refine ⟨fun _ _ => trivial, ?_⟩
  have e : (o.semAt (Fence.wide.inRound l).round a.eval) = execOp a.eval o := Oper.semAt_some l _ _ hd
  rw [e]
  unfold Oper.wp at h
  generalize (execOp a.eval o).run P w = r at *
  cases r with
  | ok x w' =>
    cases x <;> simp only [Oper.upon, Oper.uponIn] at h ⊢
    case value => exact h
    case skip => exact h
    case defer => exact h
    case enter => exact ⟨fun h => by simp [Fence.wide] at h, CallsIn.inRound l (callsIn_wide.2 h)⟩
    case row =>
      refine ⟨fun h => by simp [Fence.wide] at h, fun c cs _ => ?_⟩
      obtain ⟨v, w', hr, hs⟩ := h c cs
      exact ⟨v, w', hr, stepsIn_wide.2 hs⟩
  | halt x w' => cases x <;> simp only [Oper.upon, Oper.uponIn] at h ⊢ <;> exact h

theorem any_round (l n : Nat) (hd : ∀ (i : Nat) (o : Oper) c, ops[i]? = some o → o.op ≠ .defer c) (hq : ¬ LetsOut Q) : ∀ (fuel : Nat) (listed : Array Bool) (a : Act) (w : World),
    wpAny P md ops Q fuel listed a w → wpAnyIn (Fence.wide.inRound l) n P md ops Q fuel listed a w := by
  intro fuel
  induction fuel with
  | zero => intro listed a w h; exact h
  | succ fuel ih =>
    intro listed a w h
    refine ⟨h.1, fun i hi => ?_⟩
    have h2 := h.2 i hi
    unfold wpOp at h2
    unfold wpOpIn
    cases ho : ops[i]? with
    | none => rw [ho] at h2; exact ih _ _ _ h2
    | some o =>
      rw [ho] at h2
      simp only at h2 ⊢
      split
      · rename_i hw
        rw [if_pos hw] at h2
        rcases h2 with h2 | ⟨_, h2⟩
        · exact oper_round l n (fun c => hd i o c ho) (Oper.wp_mono (fun a w => ih _ a w) h2)
        · exact absurd h2 hq
      · rename_i hw
        rw [if_neg hw] at h2
        exact ⟨fun _ _ => trivial, ih _ _ _ h2⟩

/-- Whatever order is picked: behind each operation that is carried out S holds, but for those (fin) that wait for all that is taken first. -/
def walkS (P : Program) (md : Region.Mode) (ops : Array Oper) (Q : Exit → Act → World → Prop) (S : World → Prop) (fin : Nat → Bool) : Nat → Array Bool → Act → World → Prop
  | 0, listed, a, w => Region.ready md ops listed = [] ∧ Q .normal a w
  | m + 1, listed, a, w => (Region.ready md ops listed = [] → Q .normal a w) ∧
      ∀ i ∈ Region.ready md ops listed, wpOp P ops Q i (fun a' w' => (fin i = true ∨ S w') ∧ walkS P md ops Q S fin m (listed.setIfInBounds i true) a' w') a w

theorem any_of_walkS {S : World → Prop} {fin : Nat → Bool} (m : Nat) : ∀ (listed : Array Bool) (a : Act) (w : World), walkS P md ops Q S fin m listed a w → wpAny P md ops Q m listed a w := by
  induction m with
  | zero => exact fun _ _ _ h => h
  | succ m ih => exact fun listed a w h => ⟨h.1, fun i hi => wpOp_mono (fun a' w' k => ih _ a' w' k.2) (h.2 i hi)⟩

/-- Taken first: it yields v wherever S holds, and those of fin wait for it. -/
theorem walkS_take {S : World → Prop} {fin : Nat → Bool} {i : Nat} {oi : Oper} {v : Value} (hi : ops[i]? = some oi) (hs : Region.noSelect ops = true)
    (hw : ((List.range ops.size).all fun j => !fin j || (match ops[j]? with | some oj => oj.after.any (fun e => Region.binds md e && e.on == i) | none => true)) = true)
    (hQ : ∀ c a w, Q (.panic c) (a.put oi.dst v) w → Q (.panic c) a w) :
    ∀ (m : Nat) (listed : Array Bool) (a : Act) (w : World), Region.free md ops listed i = true → (Region.ready md ops listed).contains i = true → YieldsIf P ops S oi v a → S w →
      walkS P md ops Q S fin m (listed.setIfInBounds i true) (a.put oi.dst v) w → walkS P md ops Q S fin (m + 1) listed a w := by
  have late : ∀ (j : Nat) (oj : Oper), ops[j]? = some oj → (∀ e ∈ oj.after, Region.binds md e = true → e.on ≠ i) → fin j = false := by
    intro j oj hj hno
    have h1 := List.all_eq_true.1 hw j (List.mem_range.2 (Array.getElem?_eq_some_iff.1 hj).1)
    rw [hj] at h1
    cases hf : fin j with
    | false => rfl
    | true =>
      rw [hf] at h1
      simp only [Bool.not_true, Bool.false_or] at h1
      obtain ⟨e, he, hb⟩ := Array.any_eq_true'.1 h1
      simp only [Bool.and_eq_true, beq_iff_eq] at hb
      exact absurd hb.2 (hno e he hb.1)
  have main : ∀ (m : Nat) (listed : Array Bool) (a : Act) (w : World),
      (∀ j oj, ops[j]? = some oj → j ≠ i → listed.getD j true = false → (∀ e ∈ oj.after, Region.binds md e = true → e.on ≠ i) → oi.apart ops oj = true) →
      i ∈ Region.ready md ops listed → YieldsIf P ops S oi v a → S w →
      walkS P md ops Q S fin m (listed.setIfInBounds i true) (a.put oi.dst v) w → walkS P md ops Q S fin (m + 1) listed a w := by
    intro m
    induction m with
    | zero =>
      intro listed a w _ hr hy hS H
      refine ⟨fun h => by simp [h] at hr, fun j hj => ?_⟩
      rcases Nat.decEq j i with hji | hji
      · have := ready_mono hj hji
        rw [H.1] at this
        simp at this
      · subst hji
        exact hy.wpOp hi hS ⟨.inr hS, H⟩
    | succ m ih =>
      intro listed a w hfree hr hy hS H
      refine ⟨fun h => by simp [h] at hr, fun j hj => ?_⟩
      rcases Nat.decEq j i with hji | hji
      · obtain ⟨hun, oj, hoj, hall⟩ := mem_ready.1 hj
        have hno : ∀ e ∈ oj.after, Region.binds md e = true → e.on ≠ i := by
          intro e he hb hon
          have t1 := hall e he hb
          have t0 := (mem_ready.1 hr).1
          rw [hon] at t1
          rcases Nat.lt_or_ge i listed.size with hlt | hge
          · simp [hlt] at t0 t1
            rw [t0] at t1
            cases t1
          · simp [Array.getElem?_eq_none hge] at t1
        have hlate := late j oj hoj hno
        refine wpOp_mono (fun a' w' k => ?_) (wpOp_putIf hoj (hfree j oj hoj hji hun hno) (fun cs b => Region.noSelect_spec hs i oi cs b hi) (fun cs b => Region.noSelect_spec hs j oj cs b hoj) hQ hy (H.2 j (ready_mono hj hji)))
        obtain ⟨k1, k2, k3⟩ := k
        have hS' : S w' := k2.resolve_left (by rw [hlate]; simp)
        refine ⟨.inr hS', ih _ a' w' ?_ (ready_mono hr (Ne.symm hji)) k1 hS' (by rw [Array.setIfInBounds_comm _ _ hji]; exact k3)⟩
        intro x ox hox hxi hxu hxn
        refine hfree x ox hox hxi ?_ hxn
        rcases Nat.decEq j x with hjx | hjx
        · rwa [getD_set_ne true hjx] at hxu
        · rw [← hjx]; exact hun
      · subst hji
        exact hy.wpOp hi hS ⟨.inr hS, H⟩
  intro m listed a w hf hr hy hS h
  exact main m listed a w (fun j oj h1 h2 h3 h4 => Region.free_spec hi hf j oj h1 h2 h3 h4) (by simpa using hr) hy hS h

/-- The only one that may come up. -/
theorem walkS_only {S : World → Prop} {fin : Nat → Bool} {i : Nat} {o : Oper} {m : Nat} {listed : Array Bool} {a : Act} {w : World} (hr : Region.ready md ops listed = [i]) (ho : ops[i]? = some o) (hg : o.guard = none)
    (h : ∀ K : Act → World → Prop, (∀ a' w', (fin i = true ∨ S w') → walkS P md ops Q S fin m (listed.setIfInBounds i true) a' w' → K a' w') → o.wp P a w K Q) : walkS P md ops Q S fin (m + 1) listed a w := by
  refine ⟨fun h0 => by simp [hr] at h0, fun j hj => ?_⟩
  rw [hr] at hj
  obtain rfl : j = i := by simpa using hj
  unfold wpOp
  rw [ho]
  have hw : Region.wanted o (yielded ops a.tmps) = true := by simp [Region.wanted, hg]
  simp only [hw, if_true]
  exact .inl (h _ (fun a' w' h1 h2 => ⟨h1, h2⟩))
theorem walkS_done {S : World → Prop} {fin : Nat → Bool} {listed : Array Bool} {a : Act} {w : World} (hr : Region.ready md ops listed = []) (h : Q .normal a w) (m : Nat) : walkS P md ops Q S fin m listed a w := by
  cases m with
  | zero => exact ⟨hr, h⟩
  | succ m => exact ⟨fun _ => h, by simp [hr]⟩

/-- The way in: S holds behind the draw, and the walk goes on as ever. -/
theorem round_region {id : Nat} {a : Act} {w : World} {l n : Nat} {S : World → Prop} {fin : Nat → Bool} (hm : P.follows .mixedOrders = true) (hd : (ops.toList.all fun o => match o.op with | .defer _ => false | _ => true) = true) (hq : ¬ LetsOut Q)
    (h : walkS P .any ops Q S fin ops.size (Array.replicate ops.size false) a w.drew) : (Code.region id ops true).wpIn (Fence.wide.inRound l) n P Q a w := by
  refine wpIn_region_any hm (any_round l n (fun i o c ho hc => ?_) hq _ _ _ _ (any_of_walkS _ _ _ _ h))
  have hmem : o ∈ ops.toList := by
    have := Array.mem_of_getElem? ho
    simpa using this
  have := List.all_eq_true.1 hd o hmem
  rw [hc] at this
  simp at this

theorem oper_wide {o : Oper} {a : Act} {w : World} {K : Act → World → Prop} (n : Nat) (h : o.wp P a w K Q) : o.wpIn Fence.wide n P a w K Q := by
  refine ⟨fun _ _ => trivial, ?_⟩
  have e : (o.semAt Fence.wide.round a.eval) = execOp a.eval o := Oper.semAt_none _ _
  rw [e]
  unfold Oper.wp at h
  generalize (execOp a.eval o).run P w = r at *
  cases r with
  | ok x w' =>
    cases x <;> simp only [Oper.upon, Oper.uponIn] at h ⊢
    case value => exact h
    case skip => exact h
    case defer => exact h
    case enter => exact ⟨fun h => by simp [Fence.wide] at h, callsIn_wide.2 h⟩
    case row =>
      refine ⟨fun h => by simp [Fence.wide] at h, fun c cs _ => ?_⟩
      obtain ⟨v, w', hr, hs⟩ := h c cs
      exact ⟨v, w', hr, stepsIn_wide.2 hs⟩
  | halt x w' => cases x <;> simp only [Oper.upon, Oper.uponIn] at h ⊢ <;> exact h

/-- The two fences that are used here: none at all, and a round of loop l. -/
theorem list_wide {rest : List Oper} {o : Oper} {a : Act} {w : World} {n : Nat} (hgd : o.guard = none)
    (h : ∀ K : Act → World → Prop, (∀ a w, wpListIn Fence.wide n P ops Q rest a w → K a w) → o.wp P a w K Q) : wpListIn Fence.wide n P ops Q (o :: rest) a w :=
  wpListIn_plain hgd fun K hK => oper_wide n (h K hK)
theorem list_round {rest : List Oper} {o : Oper} {a : Act} {w : World} {n l : Nat} (hgd : o.guard = none) (hd : ∀ c, o.op ≠ .defer c)
    (h : ∀ K : Act → World → Prop, (∀ a w, wpListIn (Fence.wide.inRound l) n P ops Q rest a w → K a w) → o.wp P a w K Q) : wpListIn (Fence.wide.inRound l) n P ops Q (o :: rest) a w :=
  wpListIn_plain hgd fun K hK => oper_round l n hd (h K hK)
end

section
variable {P : Program} {w : World} {ops : Array Oper} {rest : List Oper} {o : Oper} {a : Act} {Q : Exit → Act → World → Prop} {n : Nat}
theorem wideL_alloc_row (hgd : o.guard = none) (ty : TypeId) (ho : o.op = .alloc ty) (z : Array Value) (hz : (P.info? ty).map (·.zero) = some (some (.agg z)))
    (h : ∀ g w', NewRow w g ty z w' → wpListIn Fence.wide n P ops Q rest (a.put o.dst (.pointer (some ⟨g, 0, none⟩))) w') : wpListIn Fence.wide n P ops Q (o :: rest) a w :=
  list_wide hgd fun _ hK => wp_alloc_row ty ho z hz fun g w' hn => hK _ _ (h g w' hn)
theorem wideL_box_row (hgd : o.guard = none) (ty : TypeId) (x : Operand) (ho : o.op = .box ty x) (cs : Array Value) (hx : a.eval x = .agg cs)
    (h : ∀ g w', NewRow w g ty cs w' → wpListIn Fence.wide n P ops Q rest (a.put o.dst (.pointer (some ⟨g, 0, none⟩))) w') : wpListIn Fence.wide n P ops Q (o :: rest) a w :=
  list_wide hgd fun _ hK => wp_box_row ty x ho cs hx fun g w' hn => hK _ _ (h g w' hn)
theorem wideL_store_row (hgd : o.guard = none) (ty : TypeId) (x y : Operand) (ho : o.op = .store ty x y)
    (g : Nat) (t : TypeId) (old cs : Array Value) (hx : a.eval x = .pointer (some ⟨g, 0, none⟩)) (hy : a.eval y = .agg cs) (hg : RowAt w g t old) (hs : old.size = cs.size) (hi : (P.info? ty).map (·.size) = some cs.size)
    (h1 : ∀ u ∈ cs.toList, u.oneCell' = true)
    (h : ∀ w', PutRow w g t cs w' → wpListIn Fence.wide n P ops Q rest (a.put o.dst undef) w') : wpListIn Fence.wide n P ops Q (o :: rest) a w :=
  list_wide hgd fun _ hK => wp_store_row ty x y ho g t old cs hx hy hg hs hi h1 fun w' hn => hK _ _ (h w' hn)
theorem wideL_load_row (hgd : o.guard = none) (ty : TypeId) (x : Operand) (ho : o.op = .load ty x)
    (g : Nat) (hx : a.eval x = .pointer (some ⟨g, 0, none⟩)) (t : TypeId) (cs : Array Value) (fr : Nat × Nat) (d : TypeDesc) (hg : w.heap[g]? = some (.cells cs t fr))
    (hu : P.underlying ty = some d) (hd : (match d with | .struct _ | .array _ _ => true | _ => false) = true) (hi : (P.info? ty).map (·.size) = some cs.size)
    (h : wpListIn Fence.wide n P ops Q rest (a.put o.dst (.agg cs)) w) : wpListIn Fence.wide n P ops Q (o :: rest) a w :=
  list_wide hgd fun _ hK => wp_load_row ty x ho g hx t cs fr d hg hu hd hi (hK _ _ h)

theorem roundL_alloc_row {l : Nat} (hgd : o.guard = none) (ty : TypeId) (ho : o.op = .alloc ty) (z : Array Value) (hz : (P.info? ty).map (·.zero) = some (some (.agg z)))
    (h : ∀ g w', NewRow w g ty z w' → wpListIn (Fence.wide.inRound l) n P ops Q rest (a.put o.dst (.pointer (some ⟨g, 0, none⟩))) w') : wpListIn (Fence.wide.inRound l) n P ops Q (o :: rest) a w :=
  list_round hgd (fun c hc => by rw [ho] at hc; cases hc) fun _ hK => wp_alloc_row ty ho z hz fun g w' hn => hK _ _ (h g w' hn)
theorem roundL_box_row {l : Nat} (hgd : o.guard = none) (ty : TypeId) (x : Operand) (ho : o.op = .box ty x) (cs : Array Value) (hx : a.eval x = .agg cs)
    (h : ∀ g w', NewRow w g ty cs w' → wpListIn (Fence.wide.inRound l) n P ops Q rest (a.put o.dst (.pointer (some ⟨g, 0, none⟩))) w') : wpListIn (Fence.wide.inRound l) n P ops Q (o :: rest) a w :=
  list_round hgd (fun c hc => by rw [ho] at hc; cases hc) fun _ hK => wp_box_row ty x ho cs hx fun g w' hn => hK _ _ (h g w' hn)
theorem roundL_store_row {l : Nat} (hgd : o.guard = none) (ty : TypeId) (x y : Operand) (ho : o.op = .store ty x y)
    (g : Nat) (t : TypeId) (old cs : Array Value) (hx : a.eval x = .pointer (some ⟨g, 0, none⟩)) (hy : a.eval y = .agg cs) (hg : RowAt w g t old) (hs : old.size = cs.size) (hi : (P.info? ty).map (·.size) = some cs.size)
    (h1 : ∀ u ∈ cs.toList, u.oneCell' = true)
    (h : ∀ w', PutRow w g t cs w' → wpListIn (Fence.wide.inRound l) n P ops Q rest (a.put o.dst undef) w') : wpListIn (Fence.wide.inRound l) n P ops Q (o :: rest) a w :=
  list_round hgd (fun c hc => by rw [ho] at hc; cases hc) fun _ hK => wp_store_row ty x y ho g t old cs hx hy hg hs hi h1 fun w' hn => hK _ _ (h w' hn)
theorem roundL_load_row {l : Nat} (hgd : o.guard = none) (ty : TypeId) (x : Operand) (ho : o.op = .load ty x)
    (g : Nat) (hx : a.eval x = .pointer (some ⟨g, 0, none⟩)) (t : TypeId) (cs : Array Value) (fr : Nat × Nat) (d : TypeDesc) (hg : w.heap[g]? = some (.cells cs t fr))
    (hu : P.underlying ty = some d) (hd : (match d with | .struct _ | .array _ _ => true | _ => false) = true) (hi : (P.info? ty).map (·.size) = some cs.size)
    (h : wpListIn (Fence.wide.inRound l) n P ops Q rest (a.put o.dst (.agg cs)) w) : wpListIn (Fence.wide.inRound l) n P ops Q (o :: rest) a w :=
  list_round hgd (fun c hc => by rw [ho] at hc; cases hc) fun _ hK => wp_load_row ty x ho g hx t cs fr d hg hu hd hi (hK _ _ h)
end

section
variable {P : Program} {w : World}
/-- append of bytes onto the call's own row: just that row's block turns. -/
theorem wp_appG {o : Oper} {a : Act} {K : Act → World → Prop} {Q : Exit → Act → World → Prop} (s x : Operand) (t : TypeId)
    (ho : o.op = .call { callee := .builtin .append, args := #[s, x], argTypes := #[t, t] })
    (base : Nat) (e : TypeId) (hinfo : (P.info? e).map (fun i => (i.zero, i.size, i.bytes)) = some (some (.int .u8 0), 1, 1)) (ht : P.underlying t = some (.slice e))
    (v u : Value) (l m : List UInt8) (hs : a.eval s = v) (hx : a.eval x = u) (hown : OwnB w base e v l) (hu : Bs w u m) (hlen : l.length + m.length ≤ 140737488355328) (hb : base ≤ w.heap.size)
    (h : ∀ v' w', OwnB w' base e v' (l ++ m) → w.grownBy w' v.ownBlock → K (a.put o.dst v') w') : o.wp P a w K Q := by
  obtain ⟨v', w', hr, h2, h3⟩ := run_appB (P := P) w base t o.type e hinfo ht v u l m hown hu hlen hb
  unfold Oper.wp execOp
  simp only [ho, resolve, invoke, builtin, Sem.run_bind, Sem.run_pure, Result.andThen_ok, List.map_toArray, List.map_cons, List.map_nil, hs, hx, hr]
  exact h v' w' h2 h3
theorem OwnB.spot {base : Nat} {e : TypeId} {v : Value} {l : List UInt8} (h : OwnB w base e v l) {k : Nat} (hk : v.ownBlock = some k) : ∃ cur, w.heap[k]? = some (.cells cur e (0, 0)) := by
  rcases h.2 with ⟨rfl, _⟩ | ⟨g, cap, cur, rfl, _, hg, _⟩
  · cases hk
  · obtain rfl : g = k := by simpa [Value.ownBlock] using hk
    exact ⟨cur, hg⟩
/-- A block of another type is no row of the call's own. -/
theorem OwnB.other {base : Nat} {e t : TypeId} {v : Value} {l : List UInt8} (h : OwnB w base e v l) {g : Nat} {c : Array Value} {f : Nat × Nat} (hg : w.heap[g]? = some (.cells c t f)) (hte : t ≠ e) : some g ≠ v.ownBlock := by
  intro hk
  obtain ⟨cur, hc⟩ := h.spot hk.symm
  rw [hg] at hc
  injection hc with hc
  injection hc with _ h2 _
  exact hte h2
theorem OwnB.shape {base : Nat} {e : TypeId} {v : Value} {l : List UInt8} (h : OwnB w base e v l) : ∃ A c, v = .slice A l.length c ∧ l.length ≤ c ∧ c ≤ maxLen := by
  obtain ⟨A, c, h1, h2, h3, _⟩ := h.bs
  exact ⟨A, c, h1, h2, h3⟩
theorem OwnB.grown {w' : World} {base : Nat} {e : TypeId} {v : Value} {l : List UInt8} {row : Option Nat} (h : OwnB w base e v l) (hg : w.grownBy w' row) (hr : ∀ r, row = some r → ∃ o : Obj, w.heap[r]? = some o ∧ o.isCells = false) : OwnB w' base e v l := by
  refine World.ownsRow.kept h hg ?_
  rcases hv : v.ownBlock with _ | k
  · exact .inl rfl
  · refine .inr fun hk => ?_
    obtain ⟨cur, hc⟩ := h.spot hv
    obtain ⟨o, ho, hf⟩ := hr k hk.symm
    rw [hc] at ho
    cases ho
    simp [Obj.isCells] at hf
theorem boxed_row {w' : World} {B : Nat} {t : TypeId} {v : Value} {row : Option Nat} (h : Boxed w B t v) (hg : w.grownBy w' row) (hr : ∀ r, row = some r → ∃ o : Obj, w.heap[r]? = some o ∧ o.isCells = false) : Boxed w' B t v := by
  refine h.kept hg fun hk => ?_
  obtain ⟨o, ho, hf⟩ := hr B hk.symm
  rw [show w.heap[B]? = _ from h] at ho
  cases ho
  simp [Obj.isCells] at hf
end
theorem KeepsOthers.of_below {W W' : World} (h : Below W.heap.size W W') : KeepsOthers W W' := ⟨h.size, fun k o hk _ => (h.block k (Array.getElem?_eq_some_iff.1 hk).1).trans hk⟩

/-- A row was laid, and written. -/
theorem laid_put {W wx wy : World} {g : Nat} {t : TypeId} {z cs : Array Value} (n : NewRow W g t z wx) (p : PutRow wx g t cs wy) : Below W.heap.size W wy ∧ KeepsOthers W wy := by
  have hb : Below W.heap.size W wy := p.below n.below n.below.size (by rw [n.spot]; exact Nat.le_refl _)
  exact ⟨hb, KeepsOthers.of_below hb⟩

/-- The blocks of S are as they were. -/
def KeepsAt (S : Nat → Prop) (W W' : World) : Prop := ∀ k, S k → W'.heap[k]? = W.heap[k]?
theorem KeepsAt.refl (S : Nat → Prop) (W : World) : KeepsAt S W W := fun _ _ => rfl
theorem KeepsAt.trans {S : Nat → Prop} {A B C : World} (h : KeepsAt S A B) (k : KeepsAt S B C) : KeepsAt S A C := fun i hi => (k i hi).trans (h i hi)
theorem keepsAt_t {S : Nat → Prop} {A B C : World} (h : KeepsAt S A B) (k : KeepsAt S B C) : KeepsAt S A C := h.trans k
theorem keepsAt_b {S : Nat → Prop} {w : World} (hS : ∀ k, S k → k < w.heap.size) (W : World) (l : Nat) (o o' : Obj) (hl : w.heap.size ≤ l) (h : W.heap[l]? = some o) (_ : o.isCells = false) (_ : o.isWalk = false) : KeepsAt S W (W.putObj l o') := fun k hk =>
  (grownBy_putObj' W l o').block k (by have := (Array.getElem?_eq_some_iff.1 h).1; have := hS k hk; omega) (fun e => by cases e; have := hS _ hk; omega)
theorem KeepsAt.of_below {S : Nat → Prop} {B : Nat} {W W' : World} (h : Below B W W') (hS : ∀ k, S k → k < B) : KeepsAt S W W' := fun k hk => h.block k (hS k hk)
theorem KeepsAt.of_grown {S : Nat → Prop} {row : Option Nat} {W W' : World} (h : W.grownBy W' row) (hS : ∀ k, S k → k < W.heap.size ∧ some k ≠ row) : KeepsAt S W W' := fun k hk => h.block k (hS k hk).1 (hS k hk).2
theorem grown_of_below {W W' : World} (hb : Below W.heap.size W W') : W.grownBy W' none := ⟨hb.os, hb.tape, hb.output, hb.size, fun k hk _ => hb.block k hk⟩
end Go.Proofs.Ythipdfmaaeoijaa
end
section
namespace Go.Proofs.Ythipdfmaaeoijaa
open Go.RowKit
set_option linter.unusedVariables false

theorem plain_region {P : Program} {ops : Array Oper} {Q : Exit → Act → World → Prop} {id : Nat} {a : Act} {w : World} {S : World → Prop} {fin : Nat → Bool} (hm : P.follows .mixedOrders = true)
    (h : walkS P .any ops Q S fin ops.size (Array.replicate ops.size false) a w.drew) : (Code.region id ops true).wp P Q a w := wp_region_any hm (any_of_walkS _ _ _ _ h)
/-- A whole array is read: what the operation yields. -/
theorem run_load_row {P : Program} {o : Oper} {a : Act} {w : World} (ty : TypeId) (x : Operand) (ho : o.op = .load ty x)
    (g : Nat) (hx : a.eval x = .pointer (some ⟨g, 0, none⟩)) (t : TypeId) (cs : Array Value) (fr : Nat × Nat) (d : TypeDesc) (hg : w.heap[g]? = some (.cells cs t fr))
    (hu : P.underlying ty = some d) (hd : (match d with | .struct _ | .array _ _ => true | _ => false) = true) (hi : (P.info? ty).map (·.size) = some cs.size) : (execOp a.eval o).run P w = .ok (.value (.agg cs)) w := by
  unfold execOp
  simp only [ho, hx, Instr.loadAt, Instr.sureAddr, Sem.run_bind, Sem.run_pure, Result.andThen_ok, run_loadVar_row w g t ty cs fr d hg hu hd hi]
end Go.Proofs.Ythipdfmaaeoijaa
end
section
namespace Go.Proofs.Ythipdfmaaeoijaa
open Go.RowKit
set_option linter.unusedVariables false

/-- What the call has laid itself: each row lies there, no two in one block; and nothing that was there before has turned. -/
structure Env (w0 : World) (rs : List (Nat × TypeId × Array Value)) (w : World) : Prop where
  below : Below w0.heap.size w0 w
  rows : ∀ r ∈ rs, RowAt w r.1 r.2.1 r.2.2 ∧ w0.heap.size ≤ r.1
  apart : (rs.map (·.1)).Nodup

section
variable {w0 w w' : World} {rs : List (Nat × TypeId × Array Value)} {g : Nat} {t : TypeId} {cs old : Array Value}
theorem Env.start (w : World) : Env w [] w := ⟨Below.refl _ _, by simp, by simp⟩
theorem Env.row (h : Env w0 rs w) (i : Nat) (hi : rs[i]? = some (g, t, cs)) : RowAt w g t cs := (h.rows _ (List.mem_of_getElem? hi)).1
theorem Env.spot (h : Env w0 rs w) (i : Nat) (hi : rs[i]? = some (g, t, cs)) : w0.heap.size ≤ g := (h.rows _ (List.mem_of_getElem? hi)).2
theorem Env.new (h : Env w0 rs w) (n : NewRow w g t cs w') : Env w0 ((g, t, cs) :: rs) w' := by
  refine ⟨below_size h.below n.below, fun r hr => ?_, ?_⟩
  · rcases List.mem_cons.1 hr with rfl | hr
    · exact ⟨n.row, by have := n.spot; have := h.below.size; simp only; omega⟩
    · exact ⟨(h.rows r hr).1.kept n.below, (h.rows r hr).2⟩
  · refine List.nodup_cons.2 ⟨fun hm => ?_, h.apart⟩
    obtain ⟨r, hr, he⟩ := List.mem_map.1 hm
    have := (h.rows r hr).1.lt
    have := n.spot
    simp only at he
    omega
theorem Env.call (h : Env w0 rs w) (b : Below w.heap.size w w') : Env w0 rs w' := ⟨below_size h.below b, fun r hr => ⟨(h.rows r hr).1.kept b, (h.rows r hr).2⟩, h.apart⟩
theorem Env.drew (h : Env w0 rs w) : Env w0 rs w.drew := ⟨h.below.drew, h.rows, h.apart⟩
theorem Env.drewN (h : Env w0 rs w) (n : Nat) : Env w0 rs (w.drewN n) := ⟨below_drewN h.below n, h.rows, h.apart⟩
theorem set_map_fst {i : Nat} {x : Nat × TypeId × Array Value} (hi : rs[i]? = some (g, t, old)) (hx : x.1 = g) : (rs.set i x).map (·.1) = rs.map (·.1) := by
  rw [List.map_set, hx]
  apply List.ext_getElem? fun j => ?_
  rw [List.getElem?_set]
  split
  · rename_i h
    subst h
    have := (List.getElem?_eq_some_iff.1 hi).1
    rw [if_pos (by simpa using this), List.getElem?_map, hi]
    rfl
  · rfl
theorem nodup_at {α : Type} {l : List α} (h : l.Nodup) {i j : Nat} {a : α} (hi : l[i]? = some a) (hj : l[j]? = some a) : i = j := by
  obtain ⟨h1, e1⟩ := List.getElem?_eq_some_iff.1 hi
  obtain ⟨h2, e2⟩ := List.getElem?_eq_some_iff.1 hj
  exact (List.getElem_inj h).1 (e1.trans e2.symm)
/-- One row is written, by whatever leaves the other blocks alone. -/
theorem Env.turned (h : Env w0 rs w) (i : Nat) (hi : rs[i]? = some (g, t, old)) (hr : RowAt w' g t cs) (hg : w.grownBy w' (some g)) : Env w0 (rs.set i (g, t, cs)) w' := by
  refine ⟨h.below.grown hg h.below.size fun k hk => by injection hk with hk; subst hk; exact h.spot i hi, fun r hm => ?_, by rw [set_map_fst hi rfl]; exact h.apart⟩
  obtain ⟨j, hj⟩ := List.mem_iff_getElem?.1 hm
  rw [List.getElem?_set] at hj
  split at hj
  · split at hj
    · injection hj with hj; subst hj; exact ⟨hr, h.spot i hi⟩
    · cases hj
  · rename_i hne
    have hr' := h.rows r (List.mem_of_getElem? hj)
    refine ⟨hr'.1.grown hg fun he => ?_, hr'.2⟩
    injection he with he
    refine hne (nodup_at (l := rs.map (·.1)) h.apart (a := g) (by rw [List.getElem?_map, hi]; rfl) (by rw [List.getElem?_map, hj, ← he]; rfl))
theorem Env.put (h : Env w0 rs w) (i : Nat) (hi : rs[i]? = some (g, t, old)) (p : PutRow w g t cs w') : Env w0 (rs.set i (g, t, cs)) w' := h.turned i hi p.row p.grown
theorem grown_setCell (w : World) (g j : Nat) (u : Value) : w.grownBy (w.setCell ⟨g, j, none⟩ u) (some g) :=
  ⟨rfl, rfl, rfl, by simp, fun k hk hne => Below.heap_setCell w ⟨g, j, none⟩ u k (fun e => hne (by rw [e]))⟩
theorem Env.cell (h : Env w0 rs w) (i : Nat) (hi : rs[i]? = some (g, t, old)) (j : Nat) (u : Value) : Env w0 (rs.set i (g, t, old.setIfInBounds j u)) (w.setCell ⟨g, j, none⟩ u) :=
  h.turned i hi ((h.row i hi).put j u) (grown_setCell w g j u)
theorem Env.cellTo (h : Env w0 rs w) (i : Nat) (hi : rs[i]? = some (g, t, old)) (j : Nat) (u : Value) (he : old.setIfInBounds j u = cs) : Env w0 (rs.set i (g, t, cs)) (w.setCell ⟨g, j, none⟩ u) := he ▸ h.cell i hi j u
theorem Env.less (h : Env w0 rs w) {rs' : List (Nat × TypeId × Array Value)} (hs : rs'.Sublist rs) : Env w0 rs' w := ⟨h.below, fun r hr => h.rows r (hs.subset hr), List.Pairwise.sublist (hs.map _) h.apart⟩
/-- The newest row is written by what leaves all that is below it alone. -/
theorem Env.over (h : Env w0 ((g, t, old) :: rs) w) (hlt : ∀ r ∈ rs, r.1 < g) (hb : Below g w w') (hr : RowAt w' g t cs) : Env w0 ((g, t, cs) :: rs) w' := by
  have hs := h.spot 0 rfl
  refine ⟨h.below.trans (hb.mono hs), fun r hm => ?_, h.apart⟩
  rcases List.mem_cons.1 hm with rfl | hm
  · exact ⟨hr, hs⟩
  · have h2 := h.rows r (List.mem_cons_of_mem _ hm)
    exact ⟨h2.1.below hb (hlt r hm), h2.2⟩
theorem Env.ret (h : Env w0 rs w) (v : Value) : RetV w0 v (.returned v) w := ⟨rfl, h.below⟩
end

section
variable {P : Program} {w0 w : World} {rs : List (Nat × TypeId × Array Value)} {ops : Array Oper} {rest : List Oper} {o : Oper} {a : Act} {Q : Exit → Act → World → Prop}

theorem wpE_alloc (hgd : o.guard = none) (ty : TypeId) (ho : o.op = .alloc ty) (z : Array Value) (hz : (P.info? ty).map (·.zero) = some (some (.agg z))) (hE : Env w0 rs w)
    (h : ∀ g w', Env w0 ((g, ty, z) :: rs) w' → wpList P ops Q rest (a.put o.dst (.pointer (some ⟨g, 0, none⟩))) w') : wpList P ops Q (o :: rest) a w :=
  wpList_alloc_row hgd ty ho z hz fun g w' n => h g w' (hE.new n)
theorem wpE_allocF (hgd : o.guard = none) (ty : TypeId) (ho : o.op = .alloc ty) (z : Array Value) (hz : (P.info? ty).map (·.zero) = some (some (.agg z))) (hE : Env w0 rs w)
    (h : ∀ g w', Env w0 ((g, ty, z) :: rs) w' → (∀ r ∈ rs, r.1 < g) → wpList P ops Q rest (a.put o.dst (.pointer (some ⟨g, 0, none⟩))) w') : wpList P ops Q (o :: rest) a w :=
  wpList_alloc_row hgd ty ho z hz fun g w' n => h g w' (hE.new n) fun r hr => by rw [n.spot]; exact (hE.rows r hr).1.lt
theorem wpE_box (hgd : o.guard = none) (ty : TypeId) (x : Operand) (ho : o.op = .box ty x) (cs : Array Value) (hx : a.eval x = .agg cs) (hE : Env w0 rs w)
    (h : ∀ g w', Env w0 ((g, ty, cs) :: rs) w' → wpList P ops Q rest (a.put o.dst (.pointer (some ⟨g, 0, none⟩))) w') : wpList P ops Q (o :: rest) a w :=
  wpList_box_row hgd ty x ho cs hx fun g w' n => h g w' (hE.new n)
theorem wpE_load (hgd : o.guard = none) (ty : TypeId) (x : Operand) (ho : o.op = .load ty x) (i g : Nat) (t : TypeId) (cs : Array Value) (d : TypeDesc) (hi : rs[i]? = some (g, t, cs)) (hx : a.eval x = .pointer (some ⟨g, 0, none⟩))
    (hu : P.underlying ty = some d) (hd : (match d with | .struct _ | .array _ _ => true | _ => false) = true) (hs : (P.info? ty).map (·.size) = some cs.size) (hE : Env w0 rs w)
    (h : wpList P ops Q rest (a.put o.dst (.agg cs)) w) : wpList P ops Q (o :: rest) a w :=
  wpList_load_row hgd ty x ho g hx t cs (0, 0) d (hE.row i hi) hu hd hs h
theorem wpE_store (hgd : o.guard = none) (ty : TypeId) (x y : Operand) (ho : o.op = .store ty x y) (i g : Nat) (t : TypeId) (old cs : Array Value) (hi : rs[i]? = some (g, t, old)) (hx : a.eval x = .pointer (some ⟨g, 0, none⟩)) (hy : a.eval y = .agg cs)
    (hso : old.size = cs.size) (hs : (P.info? ty).map (·.size) = some cs.size) (h1 : ∀ u ∈ cs.toList, u.oneCell' = true) (hE : Env w0 rs w)
    (h : ∀ w', Env w0 (rs.set i (g, t, cs)) w' → wpList P ops Q rest (a.put o.dst undef) w') : wpList P ops Q (o :: rest) a w :=
  wpList_store_row hgd ty x y ho g t old cs hx hy (hE.row i hi) hso hs h1 fun w' p => h w' (hE.put i hi p)

/-- A part of a row, from its cell k on: read, and written. -/
theorem rangeAt_row {w : World} {g k n : Nat} {t : TypeId} {cs : Array Value} (hr : RowAt w g t cs) : w.rangeAt g k ((cs.toList.drop k).take n) := fun j v hv => by
  rw [hr.cell]
  rw [List.getElem?_take] at hv
  split at hv
  · rw [List.getElem?_drop] at hv
    simpa using hv
  · cases hv
theorem wpE_loadP (hgd : o.guard = none) (ty : TypeId) (x : Operand) (ho : o.op = .load ty x) (i g k : Nat) (t : TypeId) (cs : Array Value) (ps : List Value) (d : TypeDesc) (hi : rs[i]? = some (g, t, cs)) (hx : a.eval x = .pointer (some ⟨g, k, none⟩))
    (hp : (cs.toList.drop k).take ps.length = ps)
    (hu : P.underlying ty = some d) (hd : d.isRow = true) (hs : (P.info? ty).map (·.size) = some ps.length) (hE : Env w0 rs w)
    (h : wpList P ops Q rest (a.put o.dst (.agg ps.toArray)) w) : wpList P ops Q (o :: rest) a w :=
  wpList_load_mid hgd ty x ho g k hx ps d (by have := rangeAt_row (k := k) (n := ps.length) (hE.row i hi); rwa [hp] at this) hu hd hs h
theorem wpE_storeP (hgd : o.guard = none) (ty : TypeId) (x y : Operand) (ho : o.op = .store ty x y) (i g k : Nat) (t : TypeId) (old cs ps : Array Value) (hi : rs[i]? = some (g, t, old)) (hx : a.eval x = .pointer (some ⟨g, k, none⟩)) (hy : a.eval y = .agg ps)
    (hk : k + ps.size ≤ old.size) (hc : (old.toList.take k ++ ps.toList ++ old.toList.drop (k + ps.size)).toArray = cs) (hs : (P.info? ty).map (·.size) = some ps.size) (h1 : ∀ u ∈ ps.toList, u.oneCell' = true) (hE : Env w0 rs w)
    (h : ∀ w', Env w0 (rs.set i (g, t, cs)) w' → wpList P ops Q rest (a.put o.dst undef) w') : wpList P ops Q (o :: rest) a w := by
  refine wpList_plain hgd fun _ hK => ?_
  obtain ⟨f, hf, hz⟩ := Option.map_eq_some_iff.1 hs
  have hrun := run_storeCells_at (P := P) g k t ps.toList 0 old w (hE.row i hi) (by simpa using hk) h1
  have e : (old.toList.take (k + 0) ++ ps.toList ++ old.toList.drop (k + 0 + ps.toList.length)).toArray = cs := by rw [← hc, Nat.add_zero, Array.length_toList]
  rw [e] at hrun
  unfold Oper.wp execOp
  simp [ho, Instr.storeAt, Instr.sureAddr, storeVar, hx, hy, sizeOf, typeInfo, hf, hz, Value.cells, hrun]
  exact hK _ _ (h _ (hE.put i hi (setRow_put (hE.row i hi))))
end

/-! A region that draws its order: all but its last operations yield one value each wherever C holds; these are walked in the text's order. -/
section
variable {P : Program} {C : World → Prop} {ops : Array Oper}
theorem region_class_tail {id : Nat} {Q : Exit → Act → World → Prop} {a : Act} {w : World} {l : List Oper} (n : Nat) (C : World → Prop) (hC : C w.drew) (hm : P.follows .mixedOrders = true) (hB : Region.lexTailB .any l.toArray n = true)
    (h : wpQuiet P l.toArray C (fun a' => ∀ w', C w' → wpList P l.toArray Q (l.drop n) a' w') (l.take n) a) : (Code.region id l.toArray true).wp P Q a w := by
  simp only [Region.lexTailB, Bool.and_eq_true, decide_eq_true_eq] at hB
  obtain ⟨⟨⟨⟨hsel, hn⟩, hs⟩, hc⟩, hlex⟩ := hB
  have hn' : n < l.length := by simpa using hn
  have htl : (l.take n).length = n := by rw [List.length_take]; omega
  have hdl : (l.drop n).length = l.toArray.size - n := by simp
  have H := headQ_lex (md := .any) (g := l.toArray.size - n) hsel hs hc hn (l.take n) 0 (Array.replicate l.toArray.size false) a
    (fun j hj => by rw [htl] at hj; simp [hj]) (by rw [htl]; omega)
    ⟨by simp, fun j oj _ hl => (by rw [getD_replicate_false] at hl; cases hl), fun t _ ht => getD_in (by simpa using ht) (getD_replicate_false _ _)⟩ (by rw [htl]; exact hlex) h
  refine wp_region_any hm ?_
  have A := any_of_headQ (Q := Q) (g := l.toArray.size - n) (fun listed a' w' hw' hL => by
    have := wpAny_of_seq (md := .any) (Q' := Q) (l.drop n) n listed a' w' (fun j => by simp [List.getElem?_drop]) (by rw [hdl]; exact hL.1) (hL.2 w' hw')
    rwa [hdl] at this) (l.take n).length _ _ w.drew hC H
  rw [htl, show n + (l.toArray.size - n) = l.toArray.size by omega] at A
  exact A
theorem wp_assignE {o : Oper} {a : Act} {w : World} {K : Act → World → Prop} {Q : Exit → Act → World → Prop} (x : Operand) (ho : o.op = .assign x) (h : K (a.put o.dst (a.eval x)) w) : o.wp P a w K Q := by
  unfold Oper.wp execOp
  simp [ho]
  exact h
/-! The same, where behind the first n two operations are left that do not wait for one another, but for all the first ones. -/
def fullB (md : Region.Mode) (ops : Array Oper) (n : Nat) : Bool := (List.range ops.size).all fun j => decide (j < n) || (List.range n).all fun i => (ops[j]?).any fun oj => oj.after.any fun e => Region.binds md e && e.on == i
theorem fullB_spec {md : Region.Mode} {ops : Array Oper} {n i j : Nat} {oj : Oper} (h : fullB md ops n = true) (hj : ops[j]? = some oj) (hn : n ≤ j) (hi : i < n) : ∃ e ∈ oj.after, Region.binds md e = true ∧ e.on = i := by
  have h1 := List.all_eq_true.1 h j (List.mem_range.2 (Array.getElem?_eq_some_iff.1 hj).1)
  rw [decide_eq_false (by omega), Bool.false_or] at h1
  have h2 := List.all_eq_true.1 h1 i (List.mem_range.2 hi)
  rw [hj] at h2
  obtain ⟨e, he, hb⟩ := Array.any_eq_true'.1 h2
  simp only [Bool.and_eq_true, beq_iff_eq] at hb
  exact ⟨e, he, hb.1, hb.2⟩
def lexTo (md : Region.Mode) (ops : Array Oper) : Nat → Nat → Array Bool → Bool
  | 0, _, _ => true
  | f + 1, k, listed => (Region.ready md ops listed).contains k && Region.free md ops listed k && lexTo md ops f (k + 1) (listed.setIfInBounds k true)
def putTo : Nat → Nat → Array Bool → Array Bool
  | 0, _, listed => listed
  | f + 1, k, listed => putTo f (k + 1) (listed.setIfInBounds k true)
theorem headQ_firstF {md : Region.Mode} {n i : Nat} {oi : Oper} {v : Value} {L : Array Bool → Act → Prop} (hi : ops[i]? = some oi) (hsel : ∀ (j : Nat) (o : Oper) cs b, ops[j]? = some o → o.op ≠ .select cs b)
    (hfull : fullB md ops n = true) (hin : i < n) (hdone : ∀ listed a, L listed a → ∀ j ∈ Region.ready md ops listed, n ≤ j) (f : Nat) :
    ∀ (listed : Array Bool) (a : Act),
      (∀ j oj, ops[j]? = some oj → j ≠ i → listed.getD j true = false → (∀ e ∈ oj.after, Region.binds md e = true → e.on ≠ i) → oi.apart ops oj = true) →
      i ∈ Region.ready md ops listed → YieldsIn P ops C oi v a →
      headQ P md ops C n L f (listed.setIfInBounds i true) (a.put oi.dst v) → headQ P md ops C n L (f + 1) listed a := by
  have low : ∀ (listed : Array Bool), i ∈ Region.ready md ops listed → ∀ j ∈ Region.ready md ops listed, j < n := by
    intro listed hr j hj
    refine Nat.lt_of_not_le fun hge => ?_
    obtain ⟨hun, oj, hoj, hall⟩ := mem_ready.1 hj
    obtain ⟨e, he, hb, hon⟩ := fullB_spec hfull hoj hge hin
    have h1 := hall e he hb
    rw [hon, getD_both (mem_ready.1 hr).1] at h1
    cases h1
  induction f with
  | zero =>
    intro listed a _ hr hy H
    refine ⟨fun h0 => (by rw [h0] at hr; cases hr), fun j hj => ?_⟩
    have hlt := low listed hr j hj
    refine ⟨hlt, ?_⟩
    by_cases e : j = i
    · rw [e]; exact hy.qOp hi H
    · exact absurd hlt (Nat.not_lt.2 (hdone _ _ H j (ready_mono hj e)))
  | succ f ih =>
    intro listed a free hr hy H
    refine ⟨fun h0 => (by rw [h0] at hr; cases hr), fun j hj => ?_⟩
    have hlt := low listed hr j hj
    refine ⟨hlt, ?_⟩
    by_cases e : j = i
    · rw [e]; exact hy.qOp hi H
    · obtain ⟨hun, oj, hoj, hall⟩ := mem_ready.1 hj
      have hno : ∀ x ∈ oj.after, Region.binds md x = true → x.on ≠ i := fun x hx hb hon => by
        have h1 := hall x hx hb
        rw [hon, getD_both (mem_ready.1 hr).1] at h1
        cases h1
      have hboth := qOp_put hoj (free j oj hoj e hun hno) (fun cs b => hsel i oi cs b hi) (fun cs b => hsel j oj cs b hoj) hy (H.2 j (ready_mono hj e)).2
      refine qOp_mono (fun a' h3 => ?_) hboth
      refine ih _ a' (fun k ok hk hki hkun hkno => ?_) (ready_mono hr (Ne.symm e)) h3.1 ?_
      · refine free k ok hk hki ?_ hkno
        rcases Nat.decEq j k with hne | heq
        · rwa [getD_set_ne true hne] at hkun
        · rw [← heq]; exact hun
      · rw [Array.setIfInBounds_comm _ _ e]; exact h3.2
theorem headQ_lexF {md : Region.Mode} {n : Nat} {K : Act → Prop} (hsel : Region.noSelect ops = true) (hfull : fullB md ops n = true) (l : List Oper) :
    ∀ (k : Nat) (listed fin : Array Bool) (a : Act), (∀ j, j < l.length → l[j]? = ops[k + j]?) → k + l.length = n → fin = putTo l.length k listed → (∀ j ∈ Region.ready md ops fin, n ≤ j) →
    lexTo md ops l.length k listed = true → wpQuiet P ops C K l a →
    headQ P md ops C n (fun listed' a' => listed' = fin ∧ K a') l.length listed a := by
  induction l with
  | nil =>
    intro k listed fin a _ _ hf _ _ h
    exact ⟨hf.symm, h⟩
  | cons o l ih =>
    intro k listed fin a hl hk hf hd hB h
    simp only [List.length_cons, lexTo, Bool.and_eq_true] at hB hk
    have h0 : ops[k]? = some o := by simpa using (hl 0 (by simp)).symm
    have hst : qOp P ops C k (wpQuiet P ops C K l) a := by unfold qOp; simp only [h0]; exact h
    obtain ⟨v, hy, hK⟩ := yieldsIn_of_qOp h0 hst
    have hr : k ∈ Region.ready md ops listed := by simpa using hB.1.1
    refine headQ_firstF h0 (Region.noSelect_spec hsel) hfull (by omega) (fun listed' a' hL j hj => by rw [hL.1] at hj; exact hd j hj) l.length listed a (Region.free_spec h0 hB.1.2) hr hy ?_
    refine ih (k + 1) _ fin _ (fun j hj => ?_) (by omega) hf hd hB.2 hK
    have := hl (j + 1) (by simp; omega)
    simpa [Nat.add_assoc, Nat.add_comm 1 j] using this
/-- Two are left, in whichever order. -/
theorem any_pair {md : Region.Mode} {Q : Exit → Act → World → Prop} {i j : Nat} {oi oj : Oper} {listed : Array Bool} {a : Act} {w : World} (hi : ops[i]? = some oi) (hj : ops[j]? = some oj)
    (h0 : Region.ready md ops listed = [i, j]) (h1 : Region.ready md ops (listed.setIfInBounds i true) = [j]) (h2 : Region.ready md ops (listed.setIfInBounds j true) = [i])
    (h3 : Region.ready md ops ((listed.setIfInBounds i true).setIfInBounds j true) = []) (h4 : Region.ready md ops ((listed.setIfInBounds j true).setIfInBounds i true) = [])
    (hgi : oi.guard = none) (hgj : oj.guard = none)
    (ha : oi.wp P a w (fun a' w' => oj.wp P a' w' (Q .normal) Q) Q) (hb : oj.wp P a w (fun a' w' => oi.wp P a' w' (Q .normal) Q) Q) : wpAny P md ops Q 2 listed a w := by
  have wi : ∀ a : Act, Region.wanted oi (yielded ops a.tmps) = true := fun a => by simp [Region.wanted, hgi]
  have wj : ∀ a : Act, Region.wanted oj (yielded ops a.tmps) = true := fun a => by simp [Region.wanted, hgj]
  refine ⟨fun h => (by rw [h0] at h; cases h), fun k hk => ?_⟩
  rw [h0] at hk
  rcases List.mem_cons.1 hk with rfl | hk
  · unfold wpOp
    simp only [hi, wi, if_true]
    refine .inl (Oper.wp_mono (fun a' w' hw => ?_) ha)
    refine ⟨fun h => (by rw [h1] at h; cases h), fun k hk => ?_⟩
    rw [h1] at hk
    obtain rfl : k = j := by simpa using hk
    unfold wpOp
    simp only [hj, wj, if_true]
    exact .inl (Oper.wp_mono (fun a' w' hw => ⟨h3, hw⟩) hw)
  · obtain rfl : k = j := by simpa using hk
    unfold wpOp
    simp only [hj, wj, if_true]
    refine .inl (Oper.wp_mono (fun a' w' hw => ?_) hb)
    refine ⟨fun h => (by rw [h2] at h; cases h), fun k' hk' => ?_⟩
    rw [h2] at hk'
    obtain rfl : k' = i := by simpa using hk'
    unfold wpOp
    simp only [hi, wi, if_true]
    exact .inl (Oper.wp_mono (fun a' w' hw => ⟨h4, hw⟩) hw)
theorem region_class_pair {id : Nat} {Q : Exit → Act → World → Prop} {a : Act} {w : World} {l : List Oper} {oi oj : Oper} (n : Nat) (C : World → Prop) (hC : C w.drew) (hm : P.follows .mixedOrders = true)
    (hB : (Region.noSelect l.toArray && fullB .any l.toArray n && lexTo .any l.toArray n 0 (Array.replicate l.toArray.size false) && decide (l.toArray.size = n + 2)) = true)
    (h0 : Region.ready .any l.toArray (putTo n 0 (Array.replicate l.toArray.size false)) = [n, n + 1]) (h1 : Region.ready .any l.toArray ((putTo n 0 (Array.replicate l.toArray.size false)).setIfInBounds n true) = [n + 1]) (h2 : Region.ready .any l.toArray ((putTo n 0 (Array.replicate l.toArray.size false)).setIfInBounds (n + 1) true) = [n])
    (h3 : Region.ready .any l.toArray (((putTo n 0 (Array.replicate l.toArray.size false)).setIfInBounds n true).setIfInBounds (n + 1) true) = []) (h4 : Region.ready .any l.toArray (((putTo n 0 (Array.replicate l.toArray.size false)).setIfInBounds (n + 1) true).setIfInBounds n true) = [])
    (hi : l.toArray[n]? = some oi) (hj : l.toArray[n + 1]? = some oj) (hgi : oi.guard = none) (hgj : oj.guard = none)
    (h : wpQuiet P l.toArray C (fun a' => ∀ w', C w' → oi.wp P a' w' (fun a' w' => oj.wp P a' w' (Q .normal) Q) Q ∧ oj.wp P a' w' (fun a' w' => oi.wp P a' w' (Q .normal) Q) Q) (l.take n) a) : (Code.region id l.toArray true).wp P Q a w := by
  simp only [Bool.and_eq_true, decide_eq_true_eq] at hB
  obtain ⟨⟨⟨hsel, hfull⟩, hlex⟩, hsz⟩ := hB
  have hsz' : l.length = n + 2 := by simpa using hsz
  have htl : (l.take n).length = n := by rw [List.length_take]; omega
  have H := headQ_lexF (md := .any) hsel hfull (l.take n) 0 (Array.replicate l.toArray.size false) _ a (fun j hj => by rw [htl] at hj; simp [hj]) (by rw [htl]; omega) rfl (by
    rw [htl, h0]
    intro j hj
    simp only [List.mem_cons, List.not_mem_nil, or_false] at hj
    omega) (by rw [htl]; exact hlex) h
  refine wp_region_any hm ?_
  have A := any_of_headQ (Q := Q) (g := 2) (fun listed a' w' hw' hL => by
    obtain ⟨hl, hK⟩ := hL
    rw [htl] at hl
    subst hl
    exact any_pair hi hj h0 h1 h2 h3 h4 hgi hgj (hK w' hw').1 (hK w' hw').2) (l.take n).length _ _ w.drew hC H
  rw [htl, ← hsz] at A
  exact A
theorem region_class {id : Nat} {Q : Exit → Act → World → Prop} {a : Act} {w : World} {l : List Oper} (C : World → Prop) (hC : C w.drew) (hm : P.follows .mixedOrders = true) (hB : Region.lexB .any l.toArray = true)
    (h : wpQuiet P l.toArray C (fun a' => ∀ w', C w' → Q .normal a' w') l a) : (Code.region id l.toArray true).wp P Q a w := by
  exact wp_region_quiet (C := C) hm hB hC (by simpa using h)

variable {rest : List Oper} {o : Oper} {a : Act} {K : Act → Prop}
theorem q_step (hw : Region.wanted o (yielded ops a.tmps) = true) {v : Value} (hv : ∀ w, C w → o.quietAt P a C w v) (h : wpQuiet P ops C K rest (a.put o.dst v)) : wpQuiet P ops C K (o :: rest) a := by
  refine wpQuiet_step fun K' hK => ?_
  rw [if_pos hw]
  exact ⟨v, hv, hK _ h⟩
theorem q_skip (hw : Region.wanted o (yielded ops a.tmps) = false) (h : wpQuiet P ops C K rest (a.put o.dst undef)) : wpQuiet P ops C K (o :: rest) a := by
  refine wpQuiet_step fun K' hK => ?_
  rw [hw]
  exact hK _ h
/-- It yields v and leaves the world. -/
theorem q_run (hw : Region.wanted o (yielded ops a.tmps) = true) {v : Value} (hv : ∀ w, C w → (execOp a.eval o).run P w = .ok (.value v) w) (h : wpQuiet P ops C K rest (a.put o.dst v)) : wpQuiet P ops C K (o :: rest) a :=
  q_step hw (fun w hC => by unfold Oper.quietAt; rw [hv w hC]; exact ⟨rfl, rfl⟩) h
theorem q_call (hw : Region.wanted o (yielded ops a.tmps) = true) {v : Value} (f : FuncId) (args : Array Value) (hr : ∀ w, (execOp a.eval o).run P w = .ok (.enter f args) w)
    (hv : ∀ w, C w → Calls P f args w fun e w' => e = .returned v ∧ C w') (h : wpQuiet P ops C K rest (a.put o.dst v)) : wpQuiet P ops C K (o :: rest) a :=
  q_step hw (fun w hC => by unfold Oper.quietAt; rw [hr w]; exact ⟨rfl, hv w hC⟩) h
variable {w0 : World} {rs : List (Nat × TypeId × Array Value)}
theorem qE_load (hw : Region.wanted o (yielded ops a.tmps) = true) (ty : TypeId) (x : Operand) (ho : o.op = .load ty x) (i g : Nat) (t : TypeId) (cs : Array Value) (d : TypeDesc) (hi : rs[i]? = some (g, t, cs)) (hx : a.eval x = .pointer (some ⟨g, 0, none⟩))
    (hu : P.underlying ty = some d) (hd : (match d with | .struct _ | .array _ _ => true | _ => false) = true) (hs : (P.info? ty).map (·.size) = some cs.size)
    (h : wpQuiet P ops (Env w0 rs) K rest (a.put o.dst (.agg cs))) : wpQuiet P ops (Env w0 rs) K (o :: rest) a :=
  q_run hw (fun w hE => run_load_row ty x ho g hx t cs (0, 0) d (hE.row i hi) hu hd hs) h
/-- What lies there already is stored once more. -/
theorem qE_same (hw : Region.wanted o (yielded ops a.tmps) = true) (ty : TypeId) (x y : Operand) (ho : o.op = .store ty x y) (i g : Nat) (t : TypeId) (cs : Array Value) (hi : rs[i]? = some (g, t, cs)) (hx : a.eval x = .pointer (some ⟨g, 0, none⟩)) (hy : a.eval y = .agg cs)
    (hs : (P.info? ty).map (·.size) = some cs.size) (h1 : ∀ u ∈ cs.toList, u.oneCell' = true)
    (h : wpQuiet P ops (Env w0 rs) K rest (a.put o.dst undef)) : wpQuiet P ops (Env w0 rs) K (o :: rest) a := by
  refine q_step hw (v := undef) (fun w hE => ?_) h
  obtain ⟨f, hf, hz⟩ := Option.map_eq_some_iff.1 hs
  have hg := hE.row i hi
  have hrun := run_storeCells_at (P := P) g 0 t cs.toList 0 cs w hg (by simp) h1
  have he : (cs.toList.take (0 + 0) ++ cs.toList ++ cs.toList.drop (0 + 0 + cs.toList.length)).toArray = cs := by
    rw [List.drop_eq_nil_of_le (by simp)]
    simp
  rw [he, setRow_self w g cs t (0, 0) hg] at hrun
  unfold Oper.quietAt execOp
  simp [ho, Instr.storeAt, Instr.sureAddr, storeVar, hx, hy, sizeOf, typeInfo, hf, hz, Value.cells, hrun, Oper.quietUpon]
/-- A call whose contract is 'it came back with v; what was there is as it was'. -/
theorem Env.calls {f : FuncId} {args : Array Value} {w : World} {v : Value} (hE : Env w0 rs w) (h : Calls P f args w (RetV w v)) : Calls P f args w fun e w' => e = .returned v ∧ Env w0 rs w' := h.mono fun e w' ⟨he, hb⟩ => ⟨he, hE.call hb⟩
theorem Env.callsQ {f : FuncId} {args : Array Value} {w : World} {v : Value} (hE : Env w0 rs w) (h : Calls P f args w fun e w' => e = .returned v ∧ w = w') : Calls P f args w fun e w' => e = .returned v ∧ Env w0 rs w' := h.mono fun e w' ⟨he, hb⟩ => ⟨he, hb ▸ hE⟩
end
end Go.Proofs.Ythipdfmaaeoijaa
end
section
namespace Go.Proofs.Ythipdfmaaeoijaa
open Go.RowKit
set_option linter.unusedVariables false

/-- However a region's operations came about, one continuation serves. -/
theorem loose_share {P : Program} {md : Region.Mode} {ops : Array Oper} {Q : Exit → Act → World → Prop} {fin : Nat → Bool} {w0 w : World} {rs : List (Nat × TypeId × Array Value)} {m : Nat} {listed : Array Bool} {a : Act} {A : Nat → Act} (ty : TypeId) (cs : Array Value)
    (hgo : ∀ g w', Env w0 ((g, ty, cs) :: rs) w' → Q .normal (A g) w') (h : (∀ g w', Env w0 ((g, ty, cs) :: rs) w' → Q .normal (A g) w') → walkS P md ops Q (Env w0 rs) fin m listed a w) : walkS P md ops Q (Env w0 rs) fin m listed a w := h hgo

section
variable {P : Program} {md : Region.Mode} {ops : Array Oper} {Q : Exit → Act → World → Prop} {S : World → Prop} {fin : Nat → Bool}
theorem walkS_two {i j m : Nat} {oi oj : Oper} {listed : Array Bool} {a : Act} {w : World} (hr : Region.ready md ops listed = [i, j]) (hi : ops[i]? = some oi) (hj : ops[j]? = some oj) (hgi : oi.guard = none) (hgj : oj.guard = none)
    (h1 : ∀ K : Act → World → Prop, (∀ a' w', (fin i = true ∨ S w') → walkS P md ops Q S fin m (listed.setIfInBounds i true) a' w' → K a' w') → oi.wp P a w K Q)
    (h2 : ∀ K : Act → World → Prop, (∀ a' w', (fin j = true ∨ S w') → walkS P md ops Q S fin m (listed.setIfInBounds j true) a' w' → K a' w') → oj.wp P a w K Q) : walkS P md ops Q S fin (m + 1) listed a w := by
  refine ⟨fun h0 => (by rw [hr] at h0; cases h0), fun k hk => ?_⟩
  rw [hr] at hk
  rcases List.mem_cons.1 hk with rfl | hk
  · unfold wpOp
    rw [hi]
    have hw : Region.wanted oi (yielded ops a.tmps) = true := by simp [Region.wanted, hgi]
    simp only [hw, if_true]
    exact .inl (h1 _ (fun a' w' h1 h2 => ⟨h1, h2⟩))
  · obtain rfl : k = j := by simpa using hk
    unfold wpOp
    rw [hj]
    have hw : Region.wanted oj (yielded ops a.tmps) = true := by simp [Region.wanted, hgj]
    simp only [hw, if_true]
    exact .inl (h2 _ (fun a' w' h1 h2 => ⟨h1, h2⟩))
/-- Into the walk, with the rows of the call as what abides. -/
theorem region_rows {id : Nat} {w0 w : World} {rs : List (Nat × TypeId × Array Value)} {a : Act} (_ : Env w0 rs w) (hm : P.follows .mixedOrders = true) (h : walkS P .any ops Q (Env w0 rs) fin ops.size (Array.replicate ops.size false) a w.drew) : (Code.region id ops true).wp P Q a w := plain_region hm h
theorem takeE_load {w0 : World} {rs : List (Nat × TypeId × Array Value)} {k : Nat} {oi : Oper} (hi : ops[k]? = some oi) (hs : Region.noSelect ops = true)
    (hw : ((List.range ops.size).all fun j => !fin j || (match ops[j]? with | some oj => oj.after.any (fun e => Region.binds md e && e.on == k) | none => true)) = true)
    (hQ : ∀ v c a w, Q (.panic c) (a.put oi.dst v) w → Q (.panic c) a w) (m : Nat) (listed : Array Bool) (a : Act) (w : World) (hf : Region.free md ops listed k = true) (hr : (Region.ready md ops listed).contains k = true)
    (hgw : Region.wanted oi (yielded ops a.tmps) = true) (ty : TypeId) (x : Operand) (ho : oi.op = .load ty x) (i g : Nat) (t : TypeId) (cs : Array Value) (d : TypeDesc) (hi2 : rs[i]? = some (g, t, cs)) (hx : a.eval x = .pointer (some ⟨g, 0, none⟩))
    (hu : P.underlying ty = some d) (hd : (match d with | .struct _ | .array _ _ => true | _ => false) = true) (hsz : (P.info? ty).map (·.size) = some cs.size) (hE : Env w0 rs w)
    (h : walkS P md ops Q (Env w0 rs) fin m (listed.setIfInBounds k true) (a.put oi.dst (.agg cs)) w) : walkS P md ops Q (Env w0 rs) fin (m + 1) listed a w :=
  walkS_take hi hs hw (hQ _) m listed a w hf hr (.inl ⟨hgw, fun w' hS => run_load_row ty x ho g hx t cs (0, 0) d (hS.row i hi2) hu hd hsz⟩) hE h
end
end Go.Proofs.Ythipdfmaaeoijaa
end
section
namespace Go.Proofs.Ythipdfmaaeoijaa
open Go.RowKit
set_option linter.unusedVariables false
set_option maxRecDepth 20000

theorem Env.grown {w0 w w' : World} {rs : List (Nat × TypeId × Array Value)} {row : Option Nat} (h : Env w0 rs w) (hg : w.grownBy w' row) (hr : ∀ r ∈ rs, some r.1 ≠ row) (h0 : ∀ k, row = some k → w0.heap.size ≤ k) : Env w0 rs w' :=
  ⟨h.below.grown hg h.below.size h0, fun r hm => ⟨(h.rows r hm).1.grown hg (hr r hm), (h.rows r hm).2⟩, h.apart⟩
theorem Env.add {w0 w : World} {rs : List (Nat × TypeId × Array Value)} {g : Nat} {t : TypeId} {cs : Array Value} (h : Env w0 rs w) (hr : RowAt w g t cs) (hs : w0.heap.size ≤ g) (hne : ∀ r ∈ rs, r.1 ≠ g) : Env w0 ((g, t, cs) :: rs) w :=
  ⟨h.below, fun r hm => by
    rcases List.mem_cons.1 hm with rfl | hm
    · exact ⟨hr, hs⟩
    · exact h.rows r hm, List.nodup_cons.2 ⟨fun hm => by
      obtain ⟨r, hr, he⟩ := List.mem_map.1 hm
      exact hne r hr he, h.apart⟩⟩
end Go.Proofs.Ythipdfmaaeoijaa
end
