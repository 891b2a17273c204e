/-
  Texts that belong together, merged: Round, ShaE, Held, J, ShaF. Conditions: as each theorem names them.
-/
import Derived.Test.YtckpnkohaaebdaaDoorQShmAA
import Derived.Deep.RegionHeld
import Derived.RangeFuncNested
import Derived.RangeFuncBound
import Derived.RangeFuncCalls
import Derived.RangeFuncLeaves
import Derived.Shelf.Abstract
import Derived.Shelf.RegionOpen
import Derived.OwnWalkIn
import Derived.TacticsInMore
import Derived.LoopNIn
import Derived.LoopIn
import Derived.Test.YtckpnkohaaebdaaDoorQShmAB
import Derived.Deep.MidRow
import Derived.Laws.Cover3
section
namespace Go.Proofs.YtckpnkohaaebdaaDoor
open Go.RowKit Go.Shelf
set_option linter.unusedVariables false

section
variable {P : Program} {ops : Array Oper} {Q : Exit → Act → World → Prop} {md : Region.Mode}

theorem oper_round {o : Oper} {a : Act} {w : World} {K : Act → World → Prop} (l n : Nat) (hd : ∀ c, o.op ≠ .defer c) (h : o.wp P a w K Q) : o.wpIn (Fence.wide.inRound l) n P a w K Q := by
  refine ⟨fun _ _ => trivial, ?_⟩
  have e : (o.semAt (Fence.wide.inRound l).round a.eval) = execOp a.eval o := Oper.semAt_some l _ _ hd
  rw [e]
  unfold Oper.wp at h
  generalize (execOp a.eval o).run P w = r at *
  cases r with
  | ok x w' =>
    cases x <;> simp only [Oper.upon, Oper.uponIn] at h ⊢
    case value => exact h
    case skip => exact h
    case defer => exact h
    case enter => exact ⟨fun h => by simp [Fence.wide] at h, CallsIn.inRound l (callsIn_wide.2 h)⟩
    case row =>
      refine ⟨fun h => by simp [Fence.wide] at h, fun c cs _ => ?_⟩
      obtain ⟨v, w', hr, hs⟩ := h c cs
      exact ⟨v, w', hr, stepsIn_wide.2 hs⟩
  | halt x w' => cases x <;> simp only [Oper.upon, Oper.uponIn] at h ⊢ <;> exact h

theorem any_round (l n : Nat) (hd : ∀ (i : Nat) (o : Oper) c, ops[i]? = some o → o.op ≠ .defer c) (hq : ¬ LetsOut Q) : ∀ (fuel : Nat) (listed : Array Bool) (a : Act) (w : World),
    wpAny P md ops Q fuel listed a w → wpAnyIn (Fence.wide.inRound l) n P md ops Q fuel listed a w := by
  intro fuel
  induction fuel with
  | zero => intro listed a w h; exact h
  | succ fuel ih =>
    intro listed a w h
    refine ⟨h.1, fun i hi => ?_⟩
    have h2 := h.2 i hi
    unfold wpOp at h2
    unfold wpOpIn
    cases ho : ops[i]? with
    | none => rw [ho] at h2; exact ih _ _ _ h2
    | some o =>
      rw [ho] at h2
      simp only at h2 ⊢
      split
      · rename_i hw
        rw [if_pos hw] at h2
        rcases h2 with h2 | ⟨_, h2⟩
        · exact oper_round l n (fun c => hd i o c ho) (Oper.wp_mono (fun a w => ih _ a w) h2)
        · exact absurd h2 hq
      · rename_i hw
        rw [if_neg hw] at h2
        exact ⟨fun _ _ => trivial, ih _ _ _ h2⟩

/-- Whatever order is picked: behind each operation that is carried out S holds, but for those (fin) that wait for all that is taken first. -/
def walkS (P : Program) (md : Region.Mode) (ops : Array Oper) (Q : Exit → Act → World → Prop) (S : World → Prop) (fin : Nat → Bool) : Nat → Array Bool → Act → World → Prop
  | 0, listed, a, w => Region.ready md ops listed = [] ∧ Q .normal a w
  | m + 1, listed, a, w => (Region.ready md ops listed = [] → Q .normal a w) ∧
      ∀ i ∈ Region.ready md ops listed, wpOp P ops Q i (fun a' w' => (fin i = true ∨ S w') ∧ walkS P md ops Q S fin m (listed.setIfInBounds i true) a' w') a w

theorem any_of_walkS {S : World → Prop} {fin : Nat → Bool} (m : Nat) : ∀ (listed : Array Bool) (a : Act) (w : World), walkS P md ops Q S fin m listed a w → wpAny P md ops Q m listed a w := by
  induction m with
  | zero => exact fun _ _ _ h => h
  | succ m ih => exact fun listed a w h => ⟨h.1, fun i hi => wpOp_mono (fun a' w' k => ih _ a' w' k.2) (h.2 i hi)⟩

/-- Taken first: it yields v wherever S holds, and those of fin wait for it. -/
theorem walkS_take {S : World → Prop} {fin : Nat → Bool} {i : Nat} {oi : Oper} {v : Value} (hi : ops[i]? = some oi) (hs : Region.noSelect ops = true)
    (hw : ((List.range ops.size).all fun j => !fin j || (match ops[j]? with | some oj => oj.after.any (fun e => Region.binds md e && e.on == i) | none => true)) = true)
    (hQ : ∀ c a w, Q (.panic c) (a.put oi.dst v) w → Q (.panic c) a w) :
    ∀ (m : Nat) (listed : Array Bool) (a : Act) (w : World), Region.free md ops listed i = true → (Region.ready md ops listed).contains i = true → YieldsIf P ops S oi v a → S w →
      walkS P md ops Q S fin m (listed.setIfInBounds i true) (a.put oi.dst v) w → walkS P md ops Q S fin (m + 1) listed a w := by
  have late : ∀ (j : Nat) (oj : Oper), ops[j]? = some oj → (∀ e ∈ oj.after, Region.binds md e = true → e.on ≠ i) → fin j = false := by
    intro j oj hj hno
    have h1 := List.all_eq_true.1 hw j (List.mem_range.2 (Array.getElem?_eq_some_iff.1 hj).1)
    rw [hj] at h1
    cases hf : fin j with
    | false => rfl
    | true =>
      rw [hf] at h1
      simp only [Bool.not_true, Bool.false_or] at h1
      obtain ⟨e, he, hb⟩ := Array.any_eq_true'.1 h1
      simp only [Bool.and_eq_true, beq_iff_eq] at hb
      exact absurd hb.2 (hno e he hb.1)
  have main : ∀ (m : Nat) (listed : Array Bool) (a : Act) (w : World),
      (∀ j oj, ops[j]? = some oj → j ≠ i → listed.getD j true = false → (∀ e ∈ oj.after, Region.binds md e = true → e.on ≠ i) → oi.apart ops oj = true) →
      i ∈ Region.ready md ops listed → YieldsIf P ops S oi v a → S w →
      walkS P md ops Q S fin m (listed.setIfInBounds i true) (a.put oi.dst v) w → walkS P md ops Q S fin (m + 1) listed a w := by
    intro m
    induction m with
    | zero =>
      intro listed a w _ hr hy hS H
      refine ⟨fun h => by simp [h] at hr, fun j hj => ?_⟩
      rcases Nat.decEq j i with hji | hji
      · have := ready_mono hj hji
        rw [H.1] at this
        simp at this
      · subst hji
        exact hy.wpOp hi hS ⟨.inr hS, H⟩
    | succ m ih =>
      intro listed a w hfree hr hy hS H
      refine ⟨fun h => by simp [h] at hr, fun j hj => ?_⟩
      rcases Nat.decEq j i with hji | hji
      · obtain ⟨hun, oj, hoj, hall⟩ := mem_ready.1 hj
        have hno : ∀ e ∈ oj.after, Region.binds md e = true → e.on ≠ i := by
          intro e he hb hon
          have t1 := hall e he hb
          have t0 := (mem_ready.1 hr).1
          rw [hon] at t1
          rcases Nat.lt_or_ge i listed.size with hlt | hge
          · simp [hlt] at t0 t1
            rw [t0] at t1
            cases t1
          · simp [Array.getElem?_eq_none hge] at t1
        have hlate := late j oj hoj hno
        refine wpOp_mono (fun a' w' k => ?_) (wpOp_putIf hoj (hfree j oj hoj hji hun hno) (fun cs b => Region.noSelect_spec hs i oi cs b hi) (fun cs b => Region.noSelect_spec hs j oj cs b hoj) hQ hy (H.2 j (ready_mono hj hji)))
        obtain ⟨k1, k2, k3⟩ := k
        have hS' : S w' := k2.resolve_left (by rw [hlate]; simp)
        refine ⟨.inr hS', ih _ a' w' ?_ (ready_mono hr (Ne.symm hji)) k1 hS' (by rw [Array.setIfInBounds_comm _ _ hji]; exact k3)⟩
        intro x ox hox hxi hxu hxn
        refine hfree x ox hox hxi ?_ hxn
        rcases Nat.decEq j x with hjx | hjx
        · rwa [getD_set_ne true hjx] at hxu
        · rw [← hjx]; exact hun
      · subst hji
        exact hy.wpOp hi hS ⟨.inr hS, H⟩
  intro m listed a w hf hr hy hS h
  exact main m listed a w (fun j oj h1 h2 h3 h4 => Region.free_spec hi hf j oj h1 h2 h3 h4) (by simpa using hr) hy hS h

/-- The only one that may come up. -/
theorem walkS_only {S : World → Prop} {fin : Nat → Bool} {i : Nat} {o : Oper} {m : Nat} {listed : Array Bool} {a : Act} {w : World} (hr : Region.ready md ops listed = [i]) (ho : ops[i]? = some o) (hg : o.guard = none)
    (h : ∀ K : Act → World → Prop, (∀ a' w', (fin i = true ∨ S w') → walkS P md ops Q S fin m (listed.setIfInBounds i true) a' w' → K a' w') → o.wp P a w K Q) : walkS P md ops Q S fin (m + 1) listed a w := by
  refine ⟨fun h0 => by simp [hr] at h0, fun j hj => ?_⟩
  rw [hr] at hj
  obtain rfl : j = i := by simpa using hj
  unfold wpOp
  rw [ho]
  have hw : Region.wanted o (yielded ops a.tmps) = true := by simp [Region.wanted, hg]
  simp only [hw, if_true]
  exact .inl (h _ (fun a' w' h1 h2 => ⟨h1, h2⟩))
theorem walkS_done {S : World → Prop} {fin : Nat → Bool} {listed : Array Bool} {a : Act} {w : World} (hr : Region.ready md ops listed = []) (h : Q .normal a w) (m : Nat) : walkS P md ops Q S fin m listed a w := by
  cases m with
  | zero => exact ⟨hr, h⟩
  | succ m => exact ⟨fun _ => h, by simp [hr]⟩

/-- The way in: S holds behind the draw, and the walk goes on as ever. -/
theorem round_region {id : Nat} {a : Act} {w : World} {l n : Nat} {S : World → Prop} {fin : Nat → Bool} (hm : P.follows .mixedOrders = true) (hd : (ops.toList.all fun o => match o.op with | .defer _ => false | _ => true) = true) (hq : ¬ LetsOut Q)
    (h : walkS P .any ops Q S fin ops.size (Array.replicate ops.size false) a w.drew) : (Code.region id ops true).wpIn (Fence.wide.inRound l) n P Q a w := by
  refine wpIn_region_any hm (any_round l n (fun i o c ho hc => ?_) hq _ _ _ _ (any_of_walkS _ _ _ _ h))
  have hmem : o ∈ ops.toList := by
    have := Array.mem_of_getElem? ho
    simpa using this
  have := List.all_eq_true.1 hd o hmem
  rw [hc] at this
  simp at this

theorem oper_wide {o : Oper} {a : Act} {w : World} {K : Act → World → Prop} (n : Nat) (h : o.wp P a w K Q) : o.wpIn Fence.wide n P a w K Q := by
  refine ⟨fun _ _ => trivial, ?_⟩
  have e : (o.semAt Fence.wide.round a.eval) = execOp a.eval o := Oper.semAt_none _ _
  rw [e]
  unfold Oper.wp at h
  generalize (execOp a.eval o).run P w = r at *
  cases r with
  | ok x w' =>
    cases x <;> simp only [Oper.upon, Oper.uponIn] at h ⊢
    case value => exact h
    case skip => exact h
    case defer => exact h
    case enter => exact ⟨fun h => by simp [Fence.wide] at h, callsIn_wide.2 h⟩
    case row =>
      refine ⟨fun h => by simp [Fence.wide] at h, fun c cs _ => ?_⟩
      obtain ⟨v, w', hr, hs⟩ := h c cs
      exact ⟨v, w', hr, stepsIn_wide.2 hs⟩
  | halt x w' => cases x <;> simp only [Oper.upon, Oper.uponIn] at h ⊢ <;> exact h

/-- The two fences that are used here: none at all, and a round of loop l. -/
theorem list_wide {rest : List Oper} {o : Oper} {a : Act} {w : World} {n : Nat} (hgd : o.guard = none)
    (h : ∀ K : Act → World → Prop, (∀ a w, wpListIn Fence.wide n P ops Q rest a w → K a w) → o.wp P a w K Q) : wpListIn Fence.wide n P ops Q (o :: rest) a w :=
  wpListIn_plain hgd fun K hK => oper_wide n (h K hK)
theorem list_round {rest : List Oper} {o : Oper} {a : Act} {w : World} {n l : Nat} (hgd : o.guard = none) (hd : ∀ c, o.op ≠ .defer c)
    (h : ∀ K : Act → World → Prop, (∀ a w, wpListIn (Fence.wide.inRound l) n P ops Q rest a w → K a w) → o.wp P a w K Q) : wpListIn (Fence.wide.inRound l) n P ops Q (o :: rest) a w :=
  wpListIn_plain hgd fun K hK => oper_round l n hd (h K hK)
end

section
variable {P : Program} {w : World} {ops : Array Oper} {rest : List Oper} {o : Oper} {a : Act} {Q : Exit → Act → World → Prop} {n : Nat}
theorem wideL_alloc_row (hgd : o.guard = none) (ty : TypeId) (ho : o.op = .alloc ty) (z : Array Value) (hz : (P.info? ty).map (·.zero) = some (some (.agg z)))
    (h : ∀ g w', NewRow w g ty z w' → wpListIn Fence.wide n P ops Q rest (a.put o.dst (.pointer (some ⟨g, 0, none⟩))) w') : wpListIn Fence.wide n P ops Q (o :: rest) a w :=
  list_wide hgd fun _ hK => wp_alloc_row ty ho z hz fun g w' hn => hK _ _ (h g w' hn)
theorem wideL_box_row (hgd : o.guard = none) (ty : TypeId) (x : Operand) (ho : o.op = .box ty x) (cs : Array Value) (hx : a.eval x = .agg cs)
    (h : ∀ g w', NewRow w g ty cs w' → wpListIn Fence.wide n P ops Q rest (a.put o.dst (.pointer (some ⟨g, 0, none⟩))) w') : wpListIn Fence.wide n P ops Q (o :: rest) a w :=
  list_wide hgd fun _ hK => wp_box_row ty x ho cs hx fun g w' hn => hK _ _ (h g w' hn)
theorem wideL_store_row (hgd : o.guard = none) (ty : TypeId) (x y : Operand) (ho : o.op = .store ty x y)
    (g : Nat) (t : TypeId) (old cs : Array Value) (hx : a.eval x = .pointer (some ⟨g, 0, none⟩)) (hy : a.eval y = .agg cs) (hg : RowAt w g t old) (hs : old.size = cs.size) (hi : (P.info? ty).map (·.size) = some cs.size)
    (h1 : ∀ u ∈ cs.toList, u.oneCell' = true)
    (h : ∀ w', PutRow w g t cs w' → wpListIn Fence.wide n P ops Q rest (a.put o.dst undef) w') : wpListIn Fence.wide n P ops Q (o :: rest) a w :=
  list_wide hgd fun _ hK => wp_store_row ty x y ho g t old cs hx hy hg hs hi h1 fun w' hn => hK _ _ (h w' hn)
theorem wideL_load_row (hgd : o.guard = none) (ty : TypeId) (x : Operand) (ho : o.op = .load ty x)
    (g : Nat) (hx : a.eval x = .pointer (some ⟨g, 0, none⟩)) (t : TypeId) (cs : Array Value) (fr : Nat × Nat) (d : TypeDesc) (hg : w.heap[g]? = some (.cells cs t fr))
    (hu : P.underlying ty = some d) (hd : (match d with | .struct _ | .array _ _ => true | _ => false) = true) (hi : (P.info? ty).map (·.size) = some cs.size)
    (h : wpListIn Fence.wide n P ops Q rest (a.put o.dst (.agg cs)) w) : wpListIn Fence.wide n P ops Q (o :: rest) a w :=
  list_wide hgd fun _ hK => wp_load_row ty x ho g hx t cs fr d hg hu hd hi (hK _ _ h)

theorem roundL_alloc_row {l : Nat} (hgd : o.guard = none) (ty : TypeId) (ho : o.op = .alloc ty) (z : Array Value) (hz : (P.info? ty).map (·.zero) = some (some (.agg z)))
    (h : ∀ g w', NewRow w g ty z w' → wpListIn (Fence.wide.inRound l) n P ops Q rest (a.put o.dst (.pointer (some ⟨g, 0, none⟩))) w') : wpListIn (Fence.wide.inRound l) n P ops Q (o :: rest) a w :=
  list_round hgd (fun c hc => by rw [ho] at hc; cases hc) fun _ hK => wp_alloc_row ty ho z hz fun g w' hn => hK _ _ (h g w' hn)
theorem roundL_box_row {l : Nat} (hgd : o.guard = none) (ty : TypeId) (x : Operand) (ho : o.op = .box ty x) (cs : Array Value) (hx : a.eval x = .agg cs)
    (h : ∀ g w', NewRow w g ty cs w' → wpListIn (Fence.wide.inRound l) n P ops Q rest (a.put o.dst (.pointer (some ⟨g, 0, none⟩))) w') : wpListIn (Fence.wide.inRound l) n P ops Q (o :: rest) a w :=
  list_round hgd (fun c hc => by rw [ho] at hc; cases hc) fun _ hK => wp_box_row ty x ho cs hx fun g w' hn => hK _ _ (h g w' hn)
theorem roundL_store_row {l : Nat} (hgd : o.guard = none) (ty : TypeId) (x y : Operand) (ho : o.op = .store ty x y)
    (g : Nat) (t : TypeId) (old cs : Array Value) (hx : a.eval x = .pointer (some ⟨g, 0, none⟩)) (hy : a.eval y = .agg cs) (hg : RowAt w g t old) (hs : old.size = cs.size) (hi : (P.info? ty).map (·.size) = some cs.size)
    (h1 : ∀ u ∈ cs.toList, u.oneCell' = true)
    (h : ∀ w', PutRow w g t cs w' → wpListIn (Fence.wide.inRound l) n P ops Q rest (a.put o.dst undef) w') : wpListIn (Fence.wide.inRound l) n P ops Q (o :: rest) a w :=
  list_round hgd (fun c hc => by rw [ho] at hc; cases hc) fun _ hK => wp_store_row ty x y ho g t old cs hx hy hg hs hi h1 fun w' hn => hK _ _ (h w' hn)
theorem roundL_load_row {l : Nat} (hgd : o.guard = none) (ty : TypeId) (x : Operand) (ho : o.op = .load ty x)
    (g : Nat) (hx : a.eval x = .pointer (some ⟨g, 0, none⟩)) (t : TypeId) (cs : Array Value) (fr : Nat × Nat) (d : TypeDesc) (hg : w.heap[g]? = some (.cells cs t fr))
    (hu : P.underlying ty = some d) (hd : (match d with | .struct _ | .array _ _ => true | _ => false) = true) (hi : (P.info? ty).map (·.size) = some cs.size)
    (h : wpListIn (Fence.wide.inRound l) n P ops Q rest (a.put o.dst (.agg cs)) w) : wpListIn (Fence.wide.inRound l) n P ops Q (o :: rest) a w :=
  list_round hgd (fun c hc => by rw [ho] at hc; cases hc) fun _ hK => wp_load_row ty x ho g hx t cs fr d hg hu hd hi (hK _ _ h)
end

section
variable {P : Program} {w : World}
/-- append of bytes onto the call's own row: just that row's block turns. -/
theorem wp_appG {o : Oper} {a : Act} {K : Act → World → Prop} {Q : Exit → Act → World → Prop} (s x : Operand) (t : TypeId)
    (ho : o.op = .call { callee := .builtin .append, args := #[s, x], argTypes := #[t, t] })
    (base : Nat) (e : TypeId) (hinfo : (P.info? e).map (fun i => (i.zero, i.size, i.bytes)) = some (some (.int .u8 0), 1, 1)) (ht : P.underlying t = some (.slice e))
    (v u : Value) (l m : List UInt8) (hs : a.eval s = v) (hx : a.eval x = u) (hown : OwnB w base e v l) (hu : Bs w u m) (hlen : l.length + m.length ≤ 140737488355328) (hb : base ≤ w.heap.size)
    (h : ∀ v' w', OwnB w' base e v' (l ++ m) → w.grownBy w' v.ownBlock → K (a.put o.dst v') w') : o.wp P a w K Q := by
  obtain ⟨v', w', hr, h2, h3⟩ := run_appB (P := P) w base t o.type e hinfo ht v u l m hown hu hlen hb
  unfold Oper.wp execOp
  simp only [ho, resolve, invoke, builtin, Sem.run_bind, Sem.run_pure, Result.andThen_ok, List.map_toArray, List.map_cons, List.map_nil, hs, hx, hr]
  exact h v' w' h2 h3
theorem OwnB.spot {base : Nat} {e : TypeId} {v : Value} {l : List UInt8} (h : OwnB w base e v l) {k : Nat} (hk : v.ownBlock = some k) : ∃ cur, w.heap[k]? = some (.cells cur e (0, 0)) := by
  rcases h.2 with ⟨rfl, _⟩ | ⟨g, cap, cur, rfl, _, hg, _⟩
  · cases hk
  · obtain rfl : g = k := by simpa [Value.ownBlock] using hk
    exact ⟨cur, hg⟩
/-- A block of another type is no row of the call's own. -/
theorem OwnB.other {base : Nat} {e t : TypeId} {v : Value} {l : List UInt8} (h : OwnB w base e v l) {g : Nat} {c : Array Value} {f : Nat × Nat} (hg : w.heap[g]? = some (.cells c t f)) (hte : t ≠ e) : some g ≠ v.ownBlock := by
  intro hk
  obtain ⟨cur, hc⟩ := h.spot hk.symm
  rw [hg] at hc
  injection hc with hc
  injection hc with _ h2 _
  exact hte h2
theorem OwnB.shape {base : Nat} {e : TypeId} {v : Value} {l : List UInt8} (h : OwnB w base e v l) : ∃ A c, v = .slice A l.length c ∧ l.length ≤ c ∧ c ≤ maxLen := by
  obtain ⟨A, c, h1, h2, h3, _⟩ := h.bs
  exact ⟨A, c, h1, h2, h3⟩
theorem OwnB.grown {w' : World} {base : Nat} {e : TypeId} {v : Value} {l : List UInt8} {row : Option Nat} (h : OwnB w base e v l) (hg : w.grownBy w' row) (hr : ∀ r, row = some r → ∃ o : Obj, w.heap[r]? = some o ∧ o.isCells = false) : OwnB w' base e v l := by
  refine World.ownsRow.kept h hg ?_
  rcases hv : v.ownBlock with _ | k
  · exact .inl rfl
  · refine .inr fun hk => ?_
    obtain ⟨cur, hc⟩ := h.spot hv
    obtain ⟨o, ho, hf⟩ := hr k hk.symm
    rw [hc] at ho
    cases ho
    simp [Obj.isCells] at hf
theorem boxed_row {w' : World} {B : Nat} {t : TypeId} {v : Value} {row : Option Nat} (h : Boxed w B t v) (hg : w.grownBy w' row) (hr : ∀ r, row = some r → ∃ o : Obj, w.heap[r]? = some o ∧ o.isCells = false) : Boxed w' B t v := by
  refine h.kept hg fun hk => ?_
  obtain ⟨o, ho, hf⟩ := hr B hk.symm
  rw [show w.heap[B]? = _ from h] at ho
  cases ho
  simp [Obj.isCells] at hf
end
theorem KeepsOthers.of_below {W W' : World} (h : Below W.heap.size W W') : KeepsOthers W W' := ⟨h.size, fun k o hk _ => (h.block k (Array.getElem?_eq_some_iff.1 hk).1).trans hk⟩

/-- A row was laid, and written. -/
theorem laid_put {W wx wy : World} {g : Nat} {t : TypeId} {z cs : Array Value} (n : NewRow W g t z wx) (p : PutRow wx g t cs wy) : Below W.heap.size W wy ∧ KeepsOthers W wy := by
  have hb : Below W.heap.size W wy := p.below n.below n.below.size (by rw [n.spot]; exact Nat.le_refl _)
  exact ⟨hb, KeepsOthers.of_below hb⟩

/-- The blocks of S are as they were. -/
def KeepsAt (S : Nat → Prop) (W W' : World) : Prop := ∀ k, S k → W'.heap[k]? = W.heap[k]?
theorem KeepsAt.refl (S : Nat → Prop) (W : World) : KeepsAt S W W := fun _ _ => rfl
theorem KeepsAt.trans {S : Nat → Prop} {A B C : World} (h : KeepsAt S A B) (k : KeepsAt S B C) : KeepsAt S A C := fun i hi => (k i hi).trans (h i hi)
theorem keepsAt_t {S : Nat → Prop} {A B C : World} (h : KeepsAt S A B) (k : KeepsAt S B C) : KeepsAt S A C := h.trans k
theorem keepsAt_b {S : Nat → Prop} {w : World} (hS : ∀ k, S k → k < w.heap.size) (W : World) (l : Nat) (o o' : Obj) (hl : w.heap.size ≤ l) (h : W.heap[l]? = some o) (_ : o.isCells = false) (_ : o.isWalk = false) : KeepsAt S W (W.putObj l o') := fun k hk =>
  (grownBy_putObj' W l o').block k (by have := (Array.getElem?_eq_some_iff.1 h).1; have := hS k hk; omega) (fun e => by cases e; have := hS _ hk; omega)
theorem KeepsAt.of_below {S : Nat → Prop} {B : Nat} {W W' : World} (h : Below B W W') (hS : ∀ k, S k → k < B) : KeepsAt S W W' := fun k hk => h.block k (hS k hk)
theorem KeepsAt.of_grown {S : Nat → Prop} {row : Option Nat} {W W' : World} (h : W.grownBy W' row) (hS : ∀ k, S k → k < W.heap.size ∧ some k ≠ row) : KeepsAt S W W' := fun k hk => h.block k (hS k hk).1 (hS k hk).2
theorem grown_of_below {W W' : World} (hb : Below W.heap.size W W') : W.grownBy W' none := ⟨hb.os, hb.tape, hb.output, hb.size, fun k hk _ => hb.block k hk⟩
end Go.Proofs.YtckpnkohaaebdaaDoor
end
section
namespace Go.Proofs.YtckpnkohaaebdaaDoor
open Go.RowKit Go.Shelf
attribute [local go_sem] Oper.semAt_some
set_option linter.unusedVariables false
set_option maxRecDepth 20000

/-- What Chunk's function has captured: the bytes, and how many each time. -/
structure Cut (w : World) (b1 b2 b off cap N : Nat) : Prop where
  list : Boxed w b1 27 (.slice (some ⟨b, off, none⟩) (64 * N) cap)
  size : Boxed w b2 3 (.int .i64 64)
def CutAt (b1 b2 : Nat) (k : Nat) : Prop := k = b1 ∨ k = b2
theorem Cut.kept {w w' : World} {b1 b2 b off cap N : Nat} (h : Cut w b1 b2 b off cap N) (hk : KeepsAt (CutAt b1 b2) w w') : Cut w' b1 b2 b off cap N :=
  ⟨(hk b1 (.inl rfl)).trans h.list, (hk b2 (.inr rfl)).trans h.size⟩
theorem Cut.lt {w : World} {b1 b2 b off cap N : Nat} (h : Cut w b1 b2 b off cap N) : ∀ k, CutAt b1 b2 k → k < w.heap.size := by
  rintro k (rfl | rfl)
  · exact h.list.lt
  · exact h.size.lt
theorem Cut.below {w w' : World} {b1 b2 b off cap N : Nat} (h : Cut w b1 b2 b off cap N) (hb : Below w.heap.size w w') : Cut w' b1 b2 b off cap N :=
  h.kept (KeepsAt.of_below hb h.lt)

theorem take_fin (N k : Nat) (h : k < N) : (List.finRange N).take (k + 1) = (List.finRange N).take k ++ [⟨k, h⟩] := by
  rw [List.take_succ_eq_append_getElem (by simpa using h)]
  simp

set_option maxHeartbeats 2000000 in
theorem chunk1_stops (n : Nat) (hn : 1 ≤ n) (b1 b2 b off cap N : Nat) (hcap : 64 * N ≤ cap) (hmax : cap ≤ maxLen) (w : World) (env : Cut w b1 b2 b off cap N) :
    SeqStopsK Fence.wide n Tryd.prog 71 #[.pointer (some ⟨b1, 0, none⟩), .pointer (some ⟨b2, 0, none⟩)]
      (fun x : Fin N => #[.slice (some ⟨b, off + 64 * x.val, none⟩) 64 64]) (KeepsAt (CutAt b1 b2)) (fun ys => ys = List.finRange N) (fun _ => True) N w := by
  intro l J Jx W hW hJ hJx hY h0
  unfold maxLen at hmax
  have env0 : Cut W b1 b2 b off cap N := env.below hW
  have EV := Lib.hid env0
  have HJ := Lib.hid hJ
  have HY := Lib.hid hY
  obtain ⟨L, hL⟩ : ∃ L, L = 64 * N := ⟨_, rfl⟩
  rw [← hL] at hcap
  have HL := Lib.hid hL
  clear env env0 hW hJ hJx hY hL
  refine callsIn_of_wp Tryd.func71 rfl trivial ?_ rfl
  simp only [Tryd.ntmps71, List.size_toArray, List.length_cons, List.length_nil, Nat.reduceAdd, Nat.reduceSub, Array.replicate_succ, Array.replicate_zero, List.push_toArray, List.append_toArray, List.nil_append, List.cons_append]
  gi_wp2
  gi_loopw [4] (fun i wr => ∃ k p : Nat, k ≤ N ∧ Hid (p = 64 * k) ∧ i = .int .i64 p ∧ J ((List.finRange N).take k) wr ∧ Cut wr b1 b2 b off cap N) (fun i _ => L - (intOf i).toNat)
  case atStart => exact ⟨0, 0, Nat.zero_le _, rfl, rfl, h0, EV.out⟩
  case round =>
    clear h0 EV
    obtain ⟨k, p, hk, HP, rfl, hJs, hev⟩ := hrel
    have hd1 := hev.list.cell
    have hd2 := hev.size.cell
    rw [← HL.out] at hd1
    have EV := Lib.hid hev
    have HJs := Lib.hid hJs
    clear hev hJs
    by_cases hlt : k < N
    · obtain ⟨fn, tmps, assign, body, hy, hR⟩ := HY.out _ ⟨k, hlt⟩ wr.drew (HJ.out _ _ _ none HJs.out (grown_of_below (Below.refl _ _).drew) (fun r e => by cases e)) (by simp; omega)
      have hpl : p + 64 ≤ L := by have := HP.out; have := HL.out; omega
      have hne : ¬ cap = p := by omega
      have hlt2 : (p : Int) < (L : Int) := by omega
      dsimp only at hy
      have hoff : off + 64 * k = off + p := by have := HP.out; omega
      rw [hoff] at hy
      have hd3 : wr.drew.cell? ⟨b1, 0, none⟩ = some (.slice (some ⟨b, off, none⟩) L cap) := hd1
      have hd4 : wr.drew.cell? ⟨b2, 0, none⟩ = some (.int .i64 64) := hd2
      have hle1 : (p : Int) ≤ (L : Int) := by omega
      have hmin : (64 : Int) ≤ ((L - p : Nat) : Int) := by omega
      have hpl2 := hpl
      gi_wp2
      gi_region
      all_goals (
        have hmn : ¬ (((L - p : Nat) : Int) < 64) := by omega
        try simp only [if_neg hmn]
        gi_wp2
        refine hR.mono ?_
        rintro e W3 (⟨rfl, hJ3, hk3⟩ | ⟨rfl, hJx3⟩)
        · have EV3 := (EV.out.below (Below.refl _ _).drew).kept hk3
          have hd5 := EV3.size.cell
          gi_wp2
          go_roundw
          case rel => exact ⟨k + 1, p + 64, by omega, by have := HP.out; show p + 64 = _; omega, by go_num, by rw [take_fin N k hlt]; exact hJ3, EV3⟩
          case measure => simp [intOf]; omega
        · gi_wp2
          refine bodyPost_ret (results_none rfl _ _ _) rfl ?_
          exact ⟨⟨_, rfl⟩, .inr ⟨_, trivial, hJx3⟩⟩)
    · have hpl : p = L := by
        have h1 := HP.out
        have h2 := HL.out
        have h3 : k = N := by omega
        subst h3; omega
      have hge : ¬ (p : Int) < (L : Int) := by omega
      have hkN : (List.finRange N).take k = List.finRange N := List.take_of_length_le (by simp; omega)
      have HJ5 : Hid (J (List.finRange N) wr) := by rw [← hkN]; exact HJs
      gi_wp2
      go_end0
      exact ⟨⟨_, rfl⟩, .inl HJ5.out⟩

set_option maxHeartbeats 400000 in
theorem chunk_any (w : World) (b off cap N : Nat) :
    Calls Tryd.prog 64 #[.slice (some ⟨b, off, none⟩) (64 * N) cap, .int .i64 64] w fun e w' => ∃ b1 b2 : Nat,
      e = .returned (.func (.func 71) #[] #[.pointer (some ⟨b1, 0, none⟩), .pointer (some ⟨b2, 0, none⟩)]) ∧ Cut w' b1 b2 b off cap N ∧ (w.heap.size ≤ b1 ∧ w.heap.size ≤ b2) ∧ Below w.heap.size w w' := by
  go_enter Tryd.func64, Tryd.ntmps64
  go_wp2
  go_ret
  have bb : Below w.heap.size w (w.alloc (.cells #[.slice (some ⟨b, off, none⟩) (64 * N) cap] 27)) := (Below.refl _ _).alloc (Nat.le_refl _) _
  have h2 := Boxed.new (w.alloc (.cells #[.slice (some ⟨b, off, none⟩) (64 * N) cap] 27)) 3 (.int .i64 64)
  rw [World.size_alloc] at h2
  exact ⟨w.heap.size, w.heap.size + 1, rfl, ⟨(Boxed.new w 27 (.slice (some ⟨b, off, none⟩) (64 * N) cap)).alloc _, h2⟩, ⟨Nat.le_refl _, Nat.le_succ _⟩, bb.alloc bb.size _⟩
end Go.Proofs.YtckpnkohaaebdaaDoor
end
section
namespace Go.Proofs.YtckpnkohaaebdaaDoor
open Go.RowKit
set_option linter.unusedVariables false

theorem plain_region {P : Program} {ops : Array Oper} {Q : Exit → Act → World → Prop} {id : Nat} {a : Act} {w : World} {S : World → Prop} {fin : Nat → Bool} (hm : P.follows .mixedOrders = true)
    (h : walkS P .any ops Q S fin ops.size (Array.replicate ops.size false) a w.drew) : (Code.region id ops true).wp P Q a w := wp_region_any hm (any_of_walkS _ _ _ _ h)
/-- A whole array is read: what the operation yields. -/
theorem run_load_row {P : Program} {o : Oper} {a : Act} {w : World} (ty : TypeId) (x : Operand) (ho : o.op = .load ty x)
    (g : Nat) (hx : a.eval x = .pointer (some ⟨g, 0, none⟩)) (t : TypeId) (cs : Array Value) (fr : Nat × Nat) (d : TypeDesc) (hg : w.heap[g]? = some (.cells cs t fr))
    (hu : P.underlying ty = some d) (hd : (match d with | .struct _ | .array _ _ => true | _ => false) = true) (hi : (P.info? ty).map (·.size) = some cs.size) : (execOp a.eval o).run P w = .ok (.value (.agg cs)) w := by
  unfold execOp
  simp only [ho, hx, Instr.loadAt, Instr.sureAddr, Sem.run_bind, Sem.run_pure, Result.andThen_ok, run_loadVar_row w g t ty cs fr d hg hu hd hi]
end Go.Proofs.YtckpnkohaaebdaaDoor
end
section
namespace Go.Proofs.YtckpnkohaaebdaaDoor
open Go.RowKit
set_option linter.unusedVariables false
set_option maxRecDepth 20000

/-- The slice value v reads as the lists ls. -/
def Bss (w : World) (v : Value) (ls : List (List UInt8)) : Prop :=
  ∃ A c, v = .slice A ls.length c ∧ ls.length ≤ c ∧ c ≤ maxLen ∧
    (0 < ls.length → ∃ b off, A = some ⟨b, off, none⟩ ∧ ∀ j (h : j < ls.length), ∃ u, w.cell? ⟨b, off + j, none⟩ = some u ∧ Bs w u ls[j])

/-- A result that is bytes in a row of the call's own. -/
def RetOwn (w : World) (t : TypeId) (l : List UInt8) (e : Ending) (w' : World) : Prop := ∃ v, e = .returned v ∧ OwnB w' w.heap.size t v l ∧ Below w.heap.size w w'
theorem Bss.keep {w w' : World} {v : Value} {ls : List (List UInt8)} (h : Bss w v ls) (hb : Below w.heap.size w w') : Bss w' v ls := by
  obtain ⟨A, c, hv, h1, h2, h3⟩ := h
  refine ⟨A, c, hv, h1, h2, fun hl => ?_⟩
  obtain ⟨b, off, hA, hc⟩ := h3 hl
  refine ⟨b, off, hA, fun j hj => ?_⟩
  obtain ⟨u, hu, hbu⟩ := hc j hj
  exact ⟨u, (hb.cell (World.block_lt_of_cell? w _ hu)).trans hu, hbu.below hb⟩

/-- A list of lists that a call's own arguments have just made. -/
theorem Bss.lit (w : World) (e : TypeId) (vs : List Value) (ls : List (List UInt8)) (hl : vs.length = ls.length) (hm : ls.length ≤ maxLen) (h : ∀ j (h1 : j < vs.length) (h2 : j < ls.length), Bs w vs[j] ls[j]) :
    Bss (w.alloc (.cells vs.toArray e)) (.slice (some ⟨w.heap.size, 0, none⟩) ls.length ls.length) ls := by
  refine ⟨_, _, rfl, Nat.le_refl _, hm, fun _ => ⟨w.heap.size, 0, rfl, fun j hj => ⟨vs[j]'(by omega), ?_, (h j (by omega) hj).alloc _⟩⟩⟩
  rw [Nat.zero_add, World.cell?_alloc_at _ _ _ _ rfl]
  simp [hl, hj]

theorem Bs.cut {w : World} {A : Option Addr} {n c : Nat} {l : List UInt8} (h : Bs w (.slice A n c) l) (k : Nat) (hk : k ≤ l.length) :
    Bs w (.slice (if c = k then A else Option.map (fun x => x.add k) A) (l.length - k) (c - k)) (l.drop k) := by
  obtain ⟨A', c', hv, h1, h2, h3⟩ := h
  injection hv with e1 e2 e3
  subst e1 e2 e3
  have hl : (l.drop k).length = l.length - k := List.length_drop
  refine ⟨_, c - k, by rw [hl], by rw [hl]; omega, by omega, fun h0 => ?_⟩
  rw [hl] at h0
  obtain ⟨b, off, rfl, hc⟩ := h3 (by omega)
  have hadd : (⟨b, off, none⟩ : Addr).add k = ⟨b, off + k, none⟩ := by unfold Addr.add; split <;> simp_all
  refine ⟨b, off + k, by rw [if_neg (by omega)]; simp [hadd], fun j hj => ?_⟩
  rw [hl] at hj
  rw [Nat.add_assoc, hc (k + j) (by omega), List.getElem_drop]
theorem Bss.drew {w : World} {v : Value} {ls : List (List UInt8)} (h : Bss w v ls) : Bss w.drew v ls := h
theorem Bss.two (w : World) (e : TypeId) (u v : Value) (a b : List UInt8) (ha : Bs w u a) (hb : Bs w v b) :
    Bss (w.alloc (.cells #[u, v] e)) (.slice (some ⟨w.heap.size, 0, none⟩) 2 2) [a, b] :=
  Bss.lit w e [u, v] [a, b] rfl (by simp [maxLen]) (fun j h1 h2 => by
    match j, h1 with
    | 0, _ => exact ha
    | 1, _ => exact hb)
theorem Bss.three (w : World) (e : TypeId) (u v x : Value) (a b c : List UInt8) (ha : Bs w u a) (hb : Bs w v b) (hc : Bs w x c) :
    Bss (w.alloc (.cells #[u, v, x] e)) (.slice (some ⟨w.heap.size, 0, none⟩) 3 3) [a, b, c] :=
  Bss.lit w e [u, v, x] [a, b, c] rfl (by simp [maxLen]) (fun j h1 h2 => by
    match j, h1 with
    | 0, _ => exact ha
    | 1, _ => exact hb
    | 2, _ => exact hc)

theorem flat_take (ls : List (List UInt8)) (k : Nat) (h : k < ls.length) : (ls.take (k + 1)).flatten = (ls.take k).flatten ++ ls[k] := by
  rw [List.take_succ_eq_append_getElem h, List.flatten_append]
  simp
theorem flat_le (ls : List (List UInt8)) (k : Nat) : (ls.take k).flatten.length ≤ ls.flatten.length := by
  have h : ls.flatten = (ls.take k).flatten ++ (ls.drop k).flatten := by rw [← List.flatten_append, List.take_append_drop]
  rw [h, List.length_append]
  omega

set_option maxHeartbeats 1000000 in
theorem Join_own (w : World) (v : Value) (ls : List (List UInt8)) (h : Bss w v ls) (hl : ls.flatten.length ≤ 1000000000000) (hn : ls.length ≤ 1000000000000) :
    Calls Tryd.prog 44 #[v] w (RetOwn w 5 ls.flatten) := by
  obtain ⟨i0, hi, hz0, hz1, hz2⟩ := info_parts Tryd.infoB
  obtain ⟨A, c, rfl, h1, h2, h3⟩ := h
  unfold maxLen at h2
  go_enter Tryd.func44, Tryd.ntmps44
  go_wp2
  go_loop [3, 11] (fun n i => ∃ k q : Nat, k ≤ ls.length ∧ i = .int .i64 k ∧ q = (ls.take k).flatten.length ∧ n = .int .i64 (q : Int)) (fun _ i => ls.length - (intOf i).toNat)
  case atStart => exact ⟨0, 0, Nat.zero_le _, rfl, by simp, rfl⟩
  case round =>
    obtain ⟨k, q, hk, rfl, hq, rfl⟩ := hrel
    have hqb : q ≤ ls.flatten.length := by rw [hq]; exact flat_le ls k
    have HQ := Lib.hid hq
    clear hq
    by_cases hlt : k < ls.length
    · obtain ⟨b0, o0, rfl, hc⟩ := h3 (by omega)
      obtain ⟨u, hcell, ⟨Ak, ck, rfl, hk1, hk2, hk3⟩⟩ := hc k hlt
      have HT : Hid ((ls.take (k + 1)).flatten.length = q + ls[k].length) := by
        show _ = _
        rw [flat_take ls k hlt, List.length_append, ← HQ.out]
      have hb2 : q + ls[k].length ≤ ls.flatten.length := by rw [← HT.out]; exact flat_le ls (k + 1)
      clear hc h3 hk3
      go_wp2
      go_round
      case rel => exact ⟨k + 1, q + ls[k].length, by omega, by go_num, HT.out.symm, by go_num⟩
      case measure => simp [intOf]; omega
    · have hfin : q = ls.flatten.length := by have := HQ.out; rwa [List.take_of_length_le (by omega)] at this
      have HF := Lib.hid hfin
      have hq2 : ls.flatten.length ≤ q := by omega
      clear hfin
      go_wp2_with ((with_reducible refine wpList_make_own _ rfl (.const (.int .i64 0)) (.tmp 20) 27 rfl w.heap.size 5 i0 (.int .u8 0) 1 Tryd.underlying27 hi hz0 hz1 .i64 .i64 (q : Int) q (by with_unfolding_all rfl) (by with_unfolding_all rfl) rfl (by rw [hz2]; omega) (by unfold maxLen; omega) (Nat.le_refl _) ?_); intro w1 hown hgrow)
      have hown0 : OwnB w1 w.heap.size 5 (.slice (some ⟨w.heap.size, 0, none⟩) 0 q) (ls.take 0).flatten := hown
      have hbel : Below w.heap.size w w1 := (Below.refl _ _).grown hgrow (Nat.le_refl _) (fun k h => by cases h)
      clear hown hgrow
      go_loopw [6, 24] (fun v i wr => ∃ k : Nat, k ≤ ls.length ∧ i = .int .i64 k ∧ OwnB wr w.heap.size 5 v (ls.take k).flatten ∧ Below w.heap.size w wr) (fun _ i _ => ls.length - (intOf i).toNat)
      case atStart => exact ⟨0, Nat.zero_le _, rfl, hown0, hbel⟩
      case round =>
        clear hown0 hbel HQ hk
        obtain ⟨j, hj, rfl, hown, hb⟩ := hrel
        have HO := Lib.hid hown
        have HB := Lib.hid hb
        clear hown hb
        by_cases hlt2 : j < ls.length
        · obtain ⟨b0, o0, rfl, hc⟩ := h3 (by omega)
          obtain ⟨u, hcell, hu⟩ := hc j hlt2
          have hcell2 : wr.cell? ⟨b0, o0 + j, none⟩ = some u := (HB.out.cell (p := ⟨b0, o0 + j, none⟩) (World.block_lt_of_cell? w _ hcell)).trans hcell
          have HU := Lib.hid (hu.below HB.out)
          have HT := Lib.hid (flat_take ls j hlt2)
          have HLn : Hid ((ls.take j).flatten.length + ls[j].length ≤ 140737488355328) := by
            show _ ≤ _
            have := flat_le ls (j + 1)
            rw [flat_take ls j hlt2, List.length_append] at this
            omega
          clear hc h3 hcell hu
          go_wp2_with (at_builtin; refine wpList_appB _ rfl (.tmp 28) (.tmp 29) 27 rfl w 5 Tryd.infoB Tryd.underlying27 _ _ (ls.take j).flatten ls[j] rfl rfl HO.out HU.out HLn.out HB.out ?_; intro v2 w2 hown2 hb2)
          go_roundw
          case rel => exact ⟨j + 1, by omega, by go_num, by rw [HT.out]; exact hown2, hb2⟩
          case measure => simp [intOf]; omega
        · have HO2 : Hid (OwnB wr w.heap.size 5 u6 ls.flatten) := by
            have := HO.out; rwa [List.take_of_length_le (by omega)] at this
          go_wp2
          go_ret
          exact ⟨_, rfl, HO2.out, HB.out⟩
theorem Join_any (w : World) (v : Value) (ls : List (List UInt8)) (h : Bss w v ls) (hl : ls.flatten.length ≤ 1000000000000) (hn : ls.length ≤ 1000000000000) :
    Calls Tryd.prog 44 #[v] w (RetBs w ls.flatten) :=
  (Join_own w v ls h hl hn).mono fun _ _ ⟨u, he, ho, hb⟩ => ⟨u, he, ho.bs, hb⟩
end Go.Proofs.YtckpnkohaaebdaaDoor
end
section
namespace Go.Proofs.YtckpnkohaaebdaaDoor
open Go.RowKit Go.Shelf
attribute [local go_sem] Oper.semAt_some
set_option linter.unusedVariables false
set_option maxRecDepth 20000

theorem squares_range {w : World} (h : Tabs w) : w.rangeAt 1 0 (cellsW squaresW) := by
  intro j v hv
  have hj : j < squaresW.length := by
    rcases Nat.lt_or_ge j squaresW.length with hlt | hge
    · exact hlt
    · rw [List.getElem?_eq_none (by rw [cellsW_length]; exact hge)] at hv; cases hv
  have h8 := h.squares j (by rw [squaresW_length] at hj; exact hj)
  rw [Nat.zero_add, h8]
  rw [← hv]
  simp [cellsW, List.getD_eq_getElem?_getD, hj]
theorem block_range {w : World} {b off : Nat} {l : List UInt8} (hc : ∀ j (h : j < l.length), w.cell? ⟨b, off + j, none⟩ = some (.int .u8 (l[j].toNat : Int))) (k : Nat) (hk : 64 * k + 64 ≤ l.length) :
    w.rangeAt b (off + 64 * k) (cellsB ((l.drop (64 * k)).take 64)) := by
  intro j v hv
  have hj : j < 64 := by
    rcases Nat.lt_or_ge j 64 with hlt | hge
    · exact hlt
    · rw [List.getElem?_eq_none (by rw [cellsB_length, List.length_take]; omega)] at hv; cases hv
  rw [Nat.add_assoc, hc (64 * k + j) (by omega), ← hv]
  have hj2 : 64 * k + j < l.length := by omega
  simp [cellsB, hj, hj2]
/-- A post without panics. -/
def NoPanic (Q : Exit → Act → World → Prop) : Exit → Act → World → Prop
  | .panic _, _, _ => False
  | e, a, w => Q e a w
theorem NoPanic.out {Q : Exit → Act → World → Prop} : ∀ (e : Exit) (a : Act) (w : World), NoPanic Q e a w → Q e a w := by
  intro e a w h
  cases e <;> first | exact h | exact h.elim
theorem Tryd.size32F : (Tryd.prog.info? 22).map (·.size) = some 1 := by kernel_rfl
theorem wordsC_same8 {a b : List UInt32} {n : Nat} (ha : a.length = n) (hb : b.length = n) : (wordsC a).size = (wordsC b).size := by rw [wordsC_size, wordsC_size, ha, hb]
theorem bytesOfW_snoc (l : List UInt32) (x : UInt32) : bytesOfW (l ++ [x]) = bytesOfW l ++ (lowB x.toNat 4).reverse := by simp [bytesOfW]
def stepB (all : List UInt8) (N : Nat) (st : List UInt32) (x : Fin N) : List UInt32 := blockW st ((all.drop (64 * x.val)).take 64)
theorem foldl_length (all : List UInt8) (N : Nat) (pre : List (Fin N)) (st : List UInt32) (h : st.length = 8) : (pre.foldl (stepB all N) st).length = 8 := by
  induction pre generalizing st with
  | nil => exact h
  | cons x pre ih => exact ih _ (blockW_length _ _ h)
theorem foldl_all (all : List UInt8) (N : Nat) (st : List UInt32) : (List.finRange N).foldl (stepB all N) st = foldB st all N := by
  have h : ∀ k, k ≤ N → ((List.finRange N).take k).foldl (stepB all N) st = foldB st all k := by
    intro k
    induction k with
    | zero => intro _; simp [foldB]
    | succ k ih =>
      intro hk
      rw [take_fin N k (by omega), List.foldl_append, ih (by omega)]
      rfl
  have h2 := h N (Nat.le_refl _)
  rwa [List.take_of_length_le (by simp)] at h2
theorem run_load_midO {P : Program} {o : Oper} {a : Act} {w : World} (ty : TypeId) (x : Operand) (ho : o.op = .load ty x)
    (b off : Nat) (hx : a.eval x = .pointer (some ⟨b, off, none⟩)) (cs : List Value) (d : TypeDesc) (hc : w.rangeAt b off cs)
    (hu : P.underlying ty = some d) (hd : d.isRow = true) (hi : (P.info? ty).map (·.size) = some cs.length) : (execOp a.eval o).run P w = .ok (.value (.agg cs.toArray)) w := by
  unfold execOp
  simp only [ho, hx, Instr.loadAt, Instr.sureAddr, Sem.run_bind, Sem.run_pure, Result.andThen_ok, run_loadVar_mid w b off ty cs d hc hu hd hi]
theorem paddedB_blocks (l : List UInt8) : ∃ N, (paddedB l).length = 64 * N ∧ 1 ≤ N ∧ 64 * N ≤ l.length + 72 := by
  have h : (paddedB l).length = l.length + (9 + (119 - l.length % 64) % 64) := by rw [paddedB, List.length_append, padB_length]
  exact ⟨(paddedB l).length / 64, by omega, by omega, by omega⟩

set_option maxHeartbeats 2000000 in
theorem digest_any (w : World) (ht : Tabs w) (v : Value) (l : List UInt8) (hb : Bs w v l) (hl : l.length ≤ 1000000) :
    Calls Tryd.prog 45 #[v] w (RetV w (keyV (digestB l))) := by
  have HV := Lib.hid hb
  have HT := Lib.hid ht
  obtain ⟨A, c, rfl, h1, h2, h3⟩ := hb
  unfold maxLen at h2
  obtain ⟨N, hN, hN1, hN2⟩ := paddedB_blocks l
  have HN := Lib.hid hN
  have hdig : Hid (digestB l = bytesOfW (foldB squaresW (paddedB l) N)) := by
    show _ = _
    rw [digestB, hN, Nat.mul_div_cancel_left _ (by omega)]
  clear h3 ht hN
  refine (callsIn_wide (n := 3)).1 ?_
  refine callsIn_of_wp_marks Tryd.func45 rfl trivial ?_ rfl
  simp only [Tryd.ntmps45, List.size_toArray, List.length_cons, List.length_nil, Nat.reduceAdd, Nat.reduceSub, Array.replicate_succ, Array.replicate_zero, List.push_toArray, List.append_toArray, List.nil_append, List.cons_append]
  refine wpIn_wide.2 ?_
  go_wp2_with (first
    | ((with_reducible refine wpList_alloc_row (o := ⟨some 2, _, _, _, _, _⟩) rfl 33 rfl (keyC zeroKey) Tryd.zeroK ?_); intro g1 w1 n1)
    | (with_reducible refine wpList_load_mid (op := ⟨some 8, _, _, _, _, _⟩) rfl 23 (.global 1) rfl 1 0 (by with_unfolding_all rfl) (cellsW squaresW) (.array 8 22) (by with_unfolding_all exact squares_range (HT.out.below n1.below)) Tryd.underlying23 rfl (by with_unfolding_all exact Tryd.size8l squaresW squaresW_length) ?_)
    | ((with_reducible refine wpList_alloc_row (o := ⟨some 3, _, _, _, _, _⟩) rfl 23 rfl (wordsC (List.replicate 8 0)) Tryd.zero8 ?_); intro g3 w3 n3)
    | ((with_reducible refine wpList_store_row (o := ⟨none, _, _, _, _, _⟩) rfl 23 (.tmp 3) (.tmp 8) rfl g3 23 _ (wordsC squaresW) (by with_unfolding_all rfl) (by with_unfolding_all rfl) n3.row (wordsC_same8 (by simp) squaresW_length) (Tryd.size8l squaresW squaresW_length) (wordsC_one squaresW) ?_); intro w4 p4))
  have z1 := n1.size
  have z3 := n3.size
  have e1 := n1.spot
  have e3 := n3.spot
  have b3 := (laid_put n3 p4).1
  have R1 := Lib.hid (n1.row.kept b3)
  have R3 := Lib.hid p4.row
  have B4 := Lib.hid (below_size n1.below b3)
  have hg1 : w.heap.size ≤ g1 := by omega
  have h13 : g1 < g3 := by omega
  clear n1 n3 p4 b3 z1 z3 e1 e3
  refine (Pad_any _ l.length (by omega)).mono ?_
  rintro e w5 ⟨u5, rfl, hu5, b5⟩
  have HU5 := Lib.hid hu5
  have HV5 := Lib.hid (HV.out.below (below_size B4.out b5))
  have R15 := Lib.hid (R1.out.kept b5)
  have R35 := Lib.hid (R3.out.kept b5)
  have B5 := Lib.hid (below_size B4.out b5)
  obtain ⟨A5, c5, rfl, m1, m2, _⟩ := hu5
  clear b5 R1 R3 B4
  go_wp2_with fail
  refine (Join_any _ _ [l, padB l.length] (Bss.two _ _ _ _ _ _ HV5.out HU5.out) (by simp [padB_length]; omega) (by simp)).mono ?_
  rintro e w6 ⟨u6, rfl, hu6, b6⟩
  have b6' := below_size ((Below.refl _ w5).alloc (Nat.le_refl _) _) b6
  have hflat : [l, padB l.length].flatten = paddedB l := by simp [paddedB]
  rw [hflat] at hu6
  have R16 := Lib.hid (R15.out.kept b6')
  have R36 := Lib.hid (R35.out.kept b6')
  have B6 := Lib.hid (below_size B5.out b6')
  obtain ⟨A2, c2, rfl, k1, k2, k3⟩ := hu6
  have hNl := HN.out
  obtain ⟨bb, oo, rfl, hcells⟩ := k3 (by omega)
  rw [hNl] at k1 ⊢
  have HC6 := Lib.hid hcells
  clear hcells k3 hflat b6 b6' R15 R35 B5 HU5 HV5
  go_wp2_with fail
  refine (chunk_any _ bb oo c2 N).mono ?_
  rintro e w7 ⟨q1, q2, rfl, cut, ⟨hq1, hq2⟩, b7⟩
  have R17 := Lib.hid (R16.out.kept b7)
  have R37 := Lib.hid (R36.out.kept b7)
  have B7 := Lib.hid (below_size B6.out b7)
  have CUT := Lib.hid cut
  have lt3 := R36.out.lt
  have lt1 := R16.out.lt
  have HC7 : Hid (∀ (x : Nat) (W : World), KeepsAt (fun k => k = bb) w7 W → x < N → W.rangeAt bb (oo + 64 * x) (cellsB (((paddedB l).drop (64 * x)).take 64))) := fun x W hk hx => block_range (fun j hj => (World.cell?_of_block (w := w7) (w' := W) (a := ⟨bb, oo + j, none⟩) (hk bb rfl)).trans ((b7.cell (p := ⟨bb, oo + j, none⟩) (World.block_lt_of_cell? w6 _ (HC6.out j hj))).trans (HC6.out j hj))) x (by rw [HN.out]; omega)
  have ltb : bb < w7.heap.size := Nat.lt_of_lt_of_le (World.block_lt_of_cell? w6 _ (HC6.out 0 (by rw [HN.out]; omega))) b7.size
  have hb3 : bb ≠ g3 := fun e => by
    have h0 := HC6.out 0 (by rw [HN.out]; omega)
    rw [e, R36.out.cell] at h0
    have h1 := Array.mem_of_getElem? h0
    simp [wordsC, cellsW] at h1
  clear cut b7 R16 R36 B6 HC6
  have l3 := R37.out.lt
  have l1 := R17.out.lt
  go_wp2_with fail
  refine (wpIn_wide (n := 3)).1 ?_
  refine wpIn_rangeFunc_ownH (F := Fence.wide) rfl (by omega) (gf := 71) (lb := #[.pointer (some ⟨q1, 0, none⟩), .pointer (some ⟨q2, 0, none⟩)]) rfl trivial (enters_of Tryd.func71 (by kernel_rfl) rfl)
    (chunk1_stops 2 (by omega) q1 q2 bb oo c2 N k1 k2 w7 CUT.out) keepsAt_t (keepsAt_b CUT.out.lt) (Below.refl _ _) (fun _ => rfl)
    (fun pre W => RowAt W g3 23 (wordsC (pre.foldl (stepB (paddedB l) N) squaresW)) ∧ RowAt W g1 33 (keyC zeroKey) ∧ KeepsAt (fun k => k = bb) w7 W ∧ Below w.heap.size w W ∧ w7.heap.size ≤ W.heap.size)
    (fun _ _ _ => False)
    (fun s X Y row hs hg hr => by
      obtain ⟨i1, i2, i3, i4, i5⟩ := hs
      have hne : ∀ g, g < w7.heap.size → some g ≠ row := fun g hgl e => by have := (hr g e.symm).1; omega
      exact ⟨i1.grown hg (hne _ l3), i2.grown hg (hne _ l1), i3.trans (KeepsAt.of_grown hg (fun k hk => by subst hk; exact ⟨by omega, hne _ ltb⟩)), i4.grown hg (by have := B7.out.size; omega) (fun k e => by have := (hr k e).1; have := B7.out.size; omega), Nat.le_trans i5 hg.size⟩)
    (fun _ _ _ _ _ hs _ _ => hs)
    ⟨R37.out, R17.out, KeepsAt.refl _ _, B7.out, Nat.le_refl _⟩
    (fun x a' W => a' = { tmps := #[.slice A l.length c, undef, .pointer (some ⟨g1, 0, none⟩), .pointer (some ⟨g3, 0, none⟩), .slice (some ⟨bb, oo + 64 * x.val, none⟩) 64 64, undef, undef, undef, .agg (cellsW squaresW).toArray, .slice A l.length c, .slice A l.length c, .int .i64 (l.length : Int), .slice A5 (padB l.length).length c5, .slice (some ⟨w5.heap.size, 0, none⟩) 2 2, .slice (some ⟨bb, oo, none⟩) (64 * N) c2, .func (.func 71) #[] #[.pointer (some ⟨q1, 0, none⟩), .pointer (some ⟨q2, 0, none⟩)], .slice (some ⟨bb, oo + 64 * x.val, none⟩) 64 64, undef, undef, undef, undef, undef, undef, undef, undef, undef, undef, undef, undef, undef, undef, undef, undef, undef, undef, undef], defers := [] })
    (fun x a' _ X Y row hs hg hr => hs)
    ?assign ?body ?done ?stop
  case assign =>
    rintro lo pre x W K hI hK
    gi_wp2
    exact hK _ _ ((KeepsOthers.of_below (Below.refl _ _)).from _) (KeepsAt.refl _ _) hI rfl
  case body =>
    rintro lo pre x a' W hlo hrec ⟨i1, i2, i3, i4, i5⟩ rfl hlt
    obtain ⟨st, hst⟩ : ∃ st, st = pre.foldl (stepB (paddedB l) N) squaresW := ⟨_, rfl⟩
    have hsl : st.length = 8 := by rw [hst]; exact foldl_length _ _ _ _ squaresW_length
    obtain ⟨bk, hbk⟩ : ∃ bk, bk = ((paddedB l).drop (64 * x.val)).take 64 := ⟨_, rfl⟩
    have hxN := x.isLt
    have hbl : bk.length = 64 := by rw [hbk, List.length_take, List.length_drop, HN.out]; omega
    have hnext : (pre ++ [x]).foldl (stepB (paddedB l) N) squaresW = blockW st bk := by rw [List.foldl_append, hst, hbk]; rfl
    have HR : Hid (∀ W', KeepsAt (fun k => k = bb) w7 W' → W'.rangeAt bb (oo + 64 * x.val) (cellsB bk)) := fun W' hk => by rw [hbk]; exact HC7.out x.val W' hk hxN
    rw [← hst] at i1
    have HNX := Lib.hid hnext
    have HSL := Lib.hid hsl
    have HBL := Lib.hid hbl
    have I2 := Lib.hid i2
    have I4 := Lib.hid i4
    clear hnext hsl hbl hst hbk i2 i4 hrec hlt
    gi_wp2
    refine round_region (S := fun W' => RowAt W' g3 23 (wordsC st) ∧ KeepsAt (fun k => k = bb) w7 W') (fin := fun j => j == 5) (by kernel_rfl) (by kernel_rfl) (by rintro ⟨_, _, h⟩; exact h) ?_
    have hS : RowAt W.drew g3 23 (wordsC st) ∧ KeepsAt (fun k => k = bb) w7 W.drew := ⟨i1, i3⟩
    change walkS _ _ _ _ _ _ 6 _ _ _
    refine walkS_take (i := 0) (oi := ⟨some 17, _, _, _, _, _⟩) (v := .agg (wordsC st)) rfl (by kernel_rfl) (by kernel_rfl) (fun _ _ _ h => h) _ _ _ _ (by kernel_rfl) (by kernel_rfl) (Or.inl ⟨by rfl, fun w' hS' => run_load_row _ (.tmp 3) rfl g3 rfl _ (wordsC st) (0, 0) (.array 8 22) hS'.1 Tryd.underlying23 rfl (Tryd.size8l st HSL.out)⟩) hS ?_
    simp only [Act.put, List.setIfInBounds_toArray, List.set_cons_zero, List.set_cons_succ]
    refine walkS_take (i := 1) (oi := ⟨some 18, _, _, _, _, _⟩) (v := .slice (some ⟨bb, oo + 64 * x.val, none⟩) 64 64) rfl (by kernel_rfl) (by kernel_rfl) (fun _ _ _ h => h) _ _ _ _ (by kernel_rfl) (by kernel_rfl) (Or.inl ⟨by rfl, fun w' hS' => (by clear hS hS' i1 i3; go_simp)⟩) hS ?_
    simp only [Act.put, List.setIfInBounds_toArray, List.set_cons_zero, List.set_cons_succ]
    refine walkS_take (i := 2) (oi := ⟨some 19, _, _, _, _, _⟩) (v := .pointer (some ⟨bb, oo + 64 * x.val, none⟩)) rfl (by kernel_rfl) (by kernel_rfl) (fun _ _ _ h => h) _ _ _ _ (by kernel_rfl) (by kernel_rfl) (Or.inl ⟨by rfl, fun w' hS' => (by have ha := run_arrayAt (P := Tryd.prog) w' 24 5 64 (some ⟨bb, oo + 64 * x.val, none⟩) 64 64 Tryd.underlying24 (Nat.le_refl _); clear hS hS' i1 i3; go_simp)⟩) hS ?_
    simp only [Act.put, List.setIfInBounds_toArray, List.set_cons_zero, List.set_cons_succ]
    refine walkS_take (i := 3) (oi := ⟨some 20, _, _, _, _, _⟩) (v := .agg (keyC bk)) rfl (by kernel_rfl) (by kernel_rfl) (fun _ _ _ h => h) _ _ _ _ (by kernel_rfl) (by kernel_rfl) (Or.inl ⟨by rfl, fun w' hS' => run_load_midO _ (.tmp 19) rfl bb (oo + 64 * x.val) rfl (cellsB bk) (.array 64 5) (HR.out _ hS'.2) Tryd.underlying24 rfl (by rw [cellsB_length, HBL.out]; exact Tryd.size64b0)⟩) hS ?_
    simp only [Act.put, List.setIfInBounds_toArray, List.set_cons_zero, List.set_cons_succ]
    refine walkS_only (i := 4) (o := ⟨some 21, _, _, _, _, _⟩) (by kernel_rfl) rfl rfl fun K hK => ?_
    clear hS
    have HT4 : Hid (Tabs W.drew) := HT.out.below I4.out.drew
    have J1 := Lib.hid i1
    have J3 := Lib.hid i3
    clear i1 i3
    go_simp
    refine (Block_any _ HT4.out st bk HSL.out HBL.out).mono ?_
    rintro e W1 ⟨rfl, b1⟩
    have b1' : Below W.heap.size W W1 := below_size (Below.refl _ _).drew b1
    have hk1 : KeepsAt (fun k => k = bb) W W1 := KeepsAt.of_below b1' (fun k hk => by subst hk; omega)
    have hR1 := J1.out.kept b1'
    refine hK _ _ (.inr ⟨hR1, J3.out.trans hk1⟩) ?_
    clear hK K
    refine walkS_only (i := 5) (o := ⟨none, _, _, _, _, _⟩) (by kernel_rfl) rfl rfl fun K hK => ?_
    refine wp_store_row 23 (.tmp 3) (.tmp 21) rfl g3 23 (wordsC st) (wordsC (blockW st bk)) rfl rfl hR1 (wordsC_same8 HSL.out (blockW_length _ _ HSL.out)) (Tryd.size8l _ (blockW_length _ _ HSL.out)) (wordsC_one _) ?_
    intro W2 p2
    refine hK _ _ (.inl rfl) ?_
    clear hK K
    refine walkS_done (by kernel_rfl) ?_ _
    have hko : KeepsOthers W1 W2 := KeepsOthers.of_grownBy p2.grown (fun j o ej hj => by
      injection ej with ej
      subst ej
      rw [show W1.heap[g3]? = _ from hR1] at hj
      cases hj
      rfl)
    have hne : ∀ k, k < w7.heap.size → k ≠ g3 → some k ≠ some g3 := fun k _ h e => h (by injection e)
    have hs1 := b1'.size
    refine ⟨((KeepsOthers.of_below b1').trans hko).from _, ?_, ?_, ?_, ?_, ?_, ?_⟩
    · exact (KeepsAt.of_below b1' (fun k hk => Nat.lt_of_lt_of_le (CUT.out.lt k hk) i5)).trans (KeepsAt.of_grown p2.grown (fun k hk => ⟨by have := CUT.out.lt k hk; omega, by
        intro e
        injection e with e
        rcases hk with h | h <;> omega⟩))
    · rw [HNX.out]; exact p2.row
    · exact (I2.out.kept b1').grown p2.grown (by intro e; injection e with e; omega)
    · exact (J3.out.trans hk1).trans (KeepsAt.of_grown p2.grown (fun k hk => ⟨by subst hk; omega, by
        intro e
        injection e with e
        omega⟩))
    · exact p2.below (below_size I4.out b1') (by have := B7.out.size; omega) (by omega)
    · have := p2.size; omega
  case done =>
    rintro D xs W hD rfl ⟨i1, i2, i3, i4, i5⟩ hKD
    rw [foldl_all] at i1
    obtain ⟨ws, hws⟩ : ∃ ws, ws = foldB squaresW (paddedB l) N := ⟨_, rfl⟩
    have hwl : ws.length = 8 := by rw [hws, foldB_length _ _ _ squaresW_length]
    obtain ⟨fin, hfin⟩ : ∃ fin, fin = digestB l := ⟨_, rfl⟩
    have HFIN : Hid (fin = bytesOfW ws) := by show _ = _; rw [hfin, hdig.out, hws]
    have HFL : Hid (fin.length = 32) := by show _ = _; rw [hfin, digestB_length]
    rw [← hws] at i1
    have HFD := Lib.hid hfin
    have HWL := Lib.hid hwl
    have J1 := Lib.hid i1
    have J2 := Lib.hid i2
    have J4 := Lib.hid i4
    have hDW : D < W.heap.size := (Array.getElem?_eq_some_iff.1 hKD).1
    have hgD : g1 ≠ D := by omega
    have JD := Lib.hid hKD
    clear hws hwl hfin hdig HC7 CUT R17 R37 B7 i1 i2 i3 i4 hKD
    go_wp2_with (first
      | ((with_reducible refine wpList_alloc_row (o := ⟨some 5, _, _, _, _, _⟩) rfl 33 rfl (keyC zeroKey) Tryd.zeroK ?_); intro g5 w8 n8)
      | (with_reducible refine wpList_load_row (o := ⟨some 22, _, _, _, _, _⟩) rfl 23 (.tmp 3) rfl g3 (by with_unfolding_all rfl) 23 (wordsC ws) (0, 0) (.array 8 22) (by with_unfolding_all exact J1.out.kept n8.below) Tryd.underlying23 rfl (Tryd.size8l ws HWL.out) ?_))
    have e8 := n8.spot
    have hWs := J4.out.size
    have hg5 : w.heap.size ≤ g5 := by omega
    have hD5 : D < g5 := by omega
    have h15 : g1 < g5 := by omega
    have K5 : Hid (RowAt w8 g5 33 (keyC (fillB (bytesOfW (ws.take 0)) 32))) := n8.row
    have K1 : Hid (RowAt w8 g1 33 (keyC zeroKey)) := J2.out.kept n8.below
    have KD : Hid (w8.heap[D]? = some (.deferred (some []))) := (n8.below.block D hDW).trans JD.out
    have KB : Hid (Below w.heap.size w w8) := below_size J4.out n8.below
    clear n8 e8 J1 J2 J4 JD
    go_loopw [23] (fun i wr => ∃ k : Nat, k ≤ 8 ∧ i = .int .i64 k ∧ RowAt wr g1 33 (keyC zeroKey) ∧ RowAt wr g5 33 (keyC (fillB (bytesOfW (ws.take k)) 32)) ∧ wr.heap[D]? = some (.deferred (some [])) ∧ Below w.heap.size w wr) (fun i _ => 8 - (intOf i).toNat)
    case atStart => exact ⟨0, by omega, rfl, K1.out, K5.out, KD.out, KB.out⟩
    case round =>
      clear K1 K5 KD KB
      obtain ⟨k, hk, rfl, hr1, hr5, hrD, hb⟩ := hrel
      have R1 := Lib.hid hr1
      have R5 := Lib.hid hr5
      have RD := Lib.hid hrD
      have HB := Lib.hid hb
      clear hr1 hr5 hrD hb
      by_cases hlt : k < 8
      · have hln : (bytesOfW (ws.take k)).length = 4 * k := by rw [bytesOfW_length, List.length_take_of_le (by rw [HWL.out]; omega)]
        have htk : bytesOfW (ws.take (k + 1)) = bytesOfW (ws.take k) ++ (lowB (ws.getD k 0).toNat 4).reverse := by
          rw [List.take_succ_eq_append_getElem (by rw [HWL.out]; omega), bytesOfW_snoc]
          simp [HWL.out, hlt]
        have hix := fun x : World => run_index_arr (P := Tryd.prog) x 23 22 8 (wordsC ws) .i64 .u32 k Tryd.underlying23 Tryd.underlying22 Tryd.size32F hlt _ (wordsC_get ws k (by rw [HWL.out]; omega))
        have hsl := fun x : World => run_sliceArrL (P := Tryd.prog) x 33 5 32 Tryd.underlying33 Tryd.sizeB g5 0 (4 * k) (4 * (k : Int)) (by omega) (by omega)
        rw [Nat.zero_add] at hsl
        have HT2 := Lib.hid htk
        have HLN := Lib.hid hln
        generalize ws.getD k 0 = x at hix HT2
        have hx := x.toNat_lt
        clear htk hln
        have hdl : ((lowB x.toNat 4).reverse).length = 4 := by rw [List.length_reverse, lowB_length]
        have HDL := Lib.hid hdl
        have hq : 4 * (k : Int) < 32 := by omega
        have hw64 : IntKind.u64.wrap (x.toNat : Int) = (x.toNat : Int) := by rw [IntKind.wrap_u64]; omega
        clear hdl
        have hw4 : IntKind.i64.wrap (4 * (k : Int)) = 4 * (k : Int) := IntWalk.i64_in _ (by omega)
        have hg5r : g5 ≤ wr.heap.size := by have := R5.out.lt; omega
        go_wp2_with fail
        refine Code.wp_mono NoPanic.out ?_
        go_region_law (first
          | (go_simp; go_at_call 41; refine (High_in _ x.toNat 4 (by omega) (by omega) (by omega)).mono ?_; rintro e w3 ⟨_, rfl, hbs, b3⟩; have HS := Lib.hid hbs; obtain ⟨A9, c9, rfl, h1, h2, h3⟩ := hbs; clear h1 h2 h3)
          | (refine step_copy_splice rfl (.tmp 29) (.tmp 32) 27 27 rfl 5 Tryd.underlying27 Tryd.sizeB (some ⟨g5, 4 * k, none⟩) A9 (32 - 4 * k) (32 - 4 * k) ((lowB x.toNat 4).reverse).length c9 rfl rfl g5 (4 * k) (cellsB (fillB (bytesOfW (ws.take k)) 32)) 33 (R5.out.drew.kept b3) (cellsB ((lowB x.toNat 4).reverse)) (by rw [cellsB_length, HDL.out]; show 4 = min 4 _; omega) (copy_from HS.out) (by rw [cellsB_length, cellsB_length, fillB_length _ _ (by rw [HLN.out]; omega), HDL.out]; omega) (cellsB_one _) g5 wr ((Below.refl g5 wr).drew.trans (b3.mono hg5r)) (Nat.le_refl _) ?_; intro w4 hr4 hb4))
        have hr5 := hr4.out
        rw [splice_bytes] at hr5
        have hst := fillB_step (bytesOfW (ws.take k)) ((lowB x.toNat 4).reverse) 32 (by rw [HLN.out, HDL.out]; omega)
        rw [HLN.out] at hst
        rw [hst, ← HT2.out] at hr5
        have R5n : Hid (RowAt w4 g5 33 (keyC (fillB (bytesOfW (ws.take (k + 1))) 32))) := hr5
        have HB4 : Hid (Below w.heap.size w w4) := HB.out.trans (hb4.mono hg5)
        have R14 : Hid (RowAt w4 g1 33 (keyC zeroKey)) := R1.out.below hb4 h15
        have RD4 : Hid (w4.heap[D]? = some (.deferred (some []))) := (hb4.block D hD5).trans RD.out
        clear hr5 hr4 hst hb4 hix hsl
        simp only [NoPanic]
        go_wp2
        go_roundw
        case rel => exact ⟨k + 1, by omega, by go_num, R14.out, R5n.out, RD4.out, HB4.out⟩
        case measure => simp [intOf]; omega
      · have hk8 : k = 8 := by omega
        have R53 : Hid (RowAt wr g5 33 (keyC fin)) := by
          have := R5.out
          rw [hk8, List.take_of_length_le (by rw [HWL.out]; omega), ← HFIN.out, fillB_all _ _ HFL.out] at this
          exact this
        clear hk8 R5
        go_wp2_with (first
          | (with_reducible refine wpList_load_row (o := ⟨some 35, _, _, _, _, _⟩) rfl 33 (.tmp 5) rfl g5 (by with_unfolding_all rfl) 33 (keyC fin) (0, 0) (.array 32 5) (by with_unfolding_all exact R53.out) Tryd.underlying33 rfl (Tryd.sizeKey fin HFL.out) ?_)
          | ((with_reducible refine wpList_store_row (o := ⟨none, _, _, _, _, _⟩) rfl 33 (.tmp 2) (.tmp 35) rfl g1 33 _ (keyC fin) (by with_unfolding_all rfl) (by with_unfolding_all rfl) R1.out (keyC_same zeroKey_length HFL.out) (Tryd.sizeKey fin HFL.out) (keyC_one fin) ?_); intro w9 p9))
        have hD9 : w9.heap[D]? = some (.deferred (some [])) := (p9.grown.block D (Array.getElem?_eq_some_iff.1 RD.out).1 (by intro e; injection e with e; omega)).trans RD.out
        have B9 : Below w.heap.size w w9 := p9.below HB.out HB.out.size hg1
        refine ⟨by simp, .inl ⟨_, _, rfl, run_takeDeferred hD9, ?_⟩⟩
        have hD2 : ∀ r, some D = some r → ∃ o : Obj, w9.heap[r]? = some o ∧ o.isCells = false := by
          rintro r e
          cases e
          exact ⟨_, hD9, rfl⟩
        exact ⟨_, results_cell_row rfl _ _ g1 33 (keyC fin) (0, 0) (.array 32 5) rfl (p9.row.grown (grownBy_putObj' w9 D _) (by intro e; injection e with e; omega)) Tryd.underlying33 rfl (Tryd.sizeKey fin HFL.out), by rw [← HFD.out]; rfl, B9.trans (belowK_b (w := w) (Nat.le_refl _) w9 D _ _ (by omega) hD9 rfl rfl)⟩
  case stop =>
    rintro D c pre W _ _ h _
    exact h.elim
end Go.Proofs.YtckpnkohaaebdaaDoor
end
