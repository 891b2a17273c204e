/-
  Texts that belong together, merged: Loose, LadderA. Conditions: as each theorem names them.
-/
import Derived.Test.YthipdfmaaeoijaaQEpcAB
import Derived.Test.YthipdfmaaeoijaaQEpcAF
section
namespace Go.Proofs.Ythipdfmaaeoijaa
open Go.RowKit
set_option linter.unusedVariables false

/-- A variable that a region makes (operation k) and writes (operation i): its type, its zero, what it then holds. -/
structure MadeE where
  k : Nat
  i : Nat
  t : TypeId
  z : Array Value
  cs : Array Value
def ptrE (g : Nat) : Value := .pointer (some ⟨g, 0, none⟩)
def dstOf (ops : Array Oper) (k : Nat) : Option Tmp := (ops[k]?).bind (·.dst)
/-- The slots behind the operations of which L tells that they are done. -/
def putsE (ops : Array Oper) (L : Nat → Bool) : List (Nat × Value) → Act → Act
  | [], a => a
  | (k, v) :: l, a => putsE ops L l (if L k then a.put (dstOf ops k) v else a)
def slotsE (ops : Array Oper) (vs : List (Nat × Value)) (ns : List MadeE) : List (Nat × Value) := vs ++ ns.map fun n => (n.k, undef)
def fullE (vs : List (Nat × Value)) (ns : List MadeE) (G : Nat → Nat) : List (Nat × Value) := vs ++ ns.map fun n => (n.k, ptrE (G n.k))
/-- Does operation k wait for operation j? -/
def waitsE (ops : Array Oper) (k j : Nat) : Bool := (ops[k]?).any fun o => o.after.any fun e => Region.binds .any e && e.on == j
def dstsE (ops : Array Oper) (ks : List Nat) : List (Option Tmp) := ks.map (dstOf ops)

section
variable {P : Program} {ops : Array Oper} {L L' : Nat → Bool}
theorem act_put_comm (a : Act) {d d' : Option Tmp} (h : d ≠ d') (u v : Value) : (a.put d u).put d' v = (a.put d' v).put d u := by
  cases d with
  | none => rfl
  | some x => cases d' with
    | none => rfl
    | some y =>
      simp only [Act.put]
      rw [Array.setIfInBounds_comm _ _ (fun e => h (by rw [e]))]
theorem putsE_put (l : List (Nat × Value)) : ∀ (a : Act) (d : Option Tmp) (v : Value), (∀ p ∈ l, dstOf ops p.1 ≠ d) → (putsE ops L l a).put d v = putsE ops L l (a.put d v) := by
  induction l with
  | nil => intro a d v _; rfl
  | cons p l ih =>
    obtain ⟨k, u⟩ := p
    intro a d v h
    simp only [putsE]
    rw [ih _ _ _ fun q hq => h q (List.mem_cons_of_mem _ hq)]
    cases L k with
    | false => rfl
    | true =>
      simp only [if_true]
      rw [act_put_comm _ (h (k, u) (List.mem_cons_self ..))]
theorem putsE_congr (l : List (Nat × Value)) (h : ∀ p ∈ l, L p.1 = L' p.1) : ∀ a, putsE ops L l a = putsE ops L' l a := by
  induction l with
  | nil => intro a; rfl
  | cons p l ih =>
    obtain ⟨k, u⟩ := p
    intro a
    simp only [putsE]
    rw [h (k, u) (List.mem_cons_self ..), ih fun q hq => h q (List.mem_cons_of_mem _ hq)]
/-- One more is done. -/
theorem putsE_step (l : List (Nat × Value)) (k : Nat) (v : Value) (hk : L k = false) (hk' : L' k = true) (hL : ∀ j, j ≠ k → L' j = L j) :
    ∀ a, (k, v) ∈ l → (l.map (·.1)).Nodup → (l.map fun p => dstOf ops p.1).Nodup → (putsE ops L l a).put (dstOf ops k) v = putsE ops L' l a := by
  induction l with
  | nil => intro a h; cases h
  | cons p l ih =>
    obtain ⟨j, u⟩ := p
    intro a hm h1 h2
    simp only [List.map_cons, List.nodup_cons] at h1 h2
    simp only [putsE]
    rcases List.mem_cons.1 hm with e | hm
    · injection e with e1 e2
      subst e1; subst e2
      rw [hk, hk', putsE_put l _ _ _ fun q hq e => h2.1 (List.mem_map.2 ⟨q, hq, e⟩)]
      simp only [if_true]
      exact putsE_congr l (fun q hq => (hL q.1 fun e => h1.1 (List.mem_map.2 ⟨q, hq, e⟩)).symm) _
    · have hne : j ≠ k := fun e => h1.1 (List.mem_map.2 ⟨(k, v), hm, e.symm⟩)
      rw [hL j hne]
      exact ih _ hm h1.2 h2.2
theorem putsE_far (l : List (Nat × Value)) (s : Tmp) (h : ∀ p ∈ l, dstOf ops p.1 ≠ some s) : ∀ a, (putsE ops L l a).tmps.getD s undef = a.tmps.getD s undef := by
  induction l with
  | nil => intro a; rfl
  | cons p l ih =>
    obtain ⟨k, u⟩ := p
    intro a
    simp only [putsE]
    rw [ih fun q hq => h q (List.mem_cons_of_mem _ hq)]
    cases L k with
    | false => rfl
    | true =>
      have h1 := h (k, u) (List.mem_cons_self ..)
      simp only [if_true]
      unfold Act.put
      cases hd : dstOf ops k with
      | none => rfl
      | some d =>
        have : d ≠ s := fun e => h1 (by rw [← e]; exact hd)
        simp [Array.getElem?_setIfInBounds_ne this]
theorem putsE_size (l : List (Nat × Value)) : ∀ a, (putsE ops L l a).tmps.size = a.tmps.size := by
  induction l with
  | nil => intro a; rfl
  | cons p l ih =>
    obtain ⟨k, u⟩ := p
    intro a
    simp only [putsE]
    rw [ih]
    cases L k with
    | false => rfl
    | true =>
      simp only [if_true]
      unfold Act.put
      cases dstOf ops k <;> simp
theorem putsE_at (l : List (Nat × Value)) (k : Nat) (v : Value) (s : Tmp) (hs : dstOf ops k = some s) (hk : L k = true) :
    ∀ a, s < a.tmps.size → (k, v) ∈ l → (l.map fun p => dstOf ops p.1).Nodup → (putsE ops L l a).tmps.getD s undef = v := by
  induction l with
  | nil => intro a _ h; cases h
  | cons p l ih =>
    obtain ⟨j, u⟩ := p
    intro a ha hm h2
    simp only [List.map_cons, List.nodup_cons] at h2
    simp only [putsE]
    rcases List.mem_cons.1 hm with e | hm
    · injection e with e1 e2
      subst e1; subst e2
      rw [hk, if_pos rfl, putsE_far l s fun q hq e => h2.1 (List.mem_map.2 ⟨q, hq, e.trans hs.symm⟩), hs]
      simp [Act.put, ha]
    · refine ih _ ?_ hm h2.2
      cases L j with
      | false => exact ha
      | true =>
        simp only [if_true]
        unfold Act.put
        cases dstOf ops j <;> simpa using ha

/-- An operation that yields v wherever those that it waits for have yielded what they do. -/
def ValE (P : Program) (ops : Array Oper) (w0 : World) (rs : List (Nat × TypeId × Array Value)) (vs : List (Nat × Value)) (ns : List MadeE) (a0 : Act) (p : Nat × Value) : Prop :=
  ∀ o, ops[p.1]? = some o → ∀ (a : Act) (w : World), (∀ (i : Nat) (q : Nat × Value), vs[i]? = some q → waitsE ops p.1 q.1 = true → ∀ s, dstOf ops q.1 = some s → a.tmps.getD s undef = q.2) →
    (∀ s, (dstsE ops ((slotsE ops vs ns).map (·.1))).contains (some s) = false → a.tmps.getD s undef = a0.tmps.getD s undef) → Env w0 rs w →
    ∀ (Q : Exit → Act → World → Prop) (K : Act → World → Prop), (∀ w', Below w.heap.size w w' → K (a.put o.dst p.2) w') → o.wp P a w K Q
/-- A variable is made, and written by what waits for it. -/
def MakesE (P : Program) (ops : Array Oper) (vs : List (Nat × Value)) (ns : List MadeE) (a0 : Act) (n : MadeE) : Prop :=
  (∃ ok, ops[n.k]? = some ok ∧ ok.op = .alloc n.t ∧ (P.info? n.t).map (·.zero) = some (some (.agg n.z))) ∧
  ∃ (oi : Oper) (x y : Tmp) (s : Nat), ops[n.i]? = some oi ∧ oi.op = .store n.t (.tmp x) (.tmp y) ∧ dstOf ops n.k = some x ∧ waitsE ops n.i n.k = true ∧
    n.z.size = n.cs.size ∧ (P.info? n.t).map (·.size) = some n.cs.size ∧ (∀ u ∈ n.cs.toList, u.oneCell' = true) ∧
    ((vs[s]?).any fun q => waitsE ops n.i q.1 && dstOf ops q.1 == some y) = true ∧ (vs[s]?).map (·.2) = some (.agg n.cs)
def AllE {α : Type} (F : α → Prop) : List α → Prop
  | [] => True
  | p :: l => F p ∧ AllE F l
theorem AllE.mem {α : Type} {F : α → Prop} : ∀ {l : List α}, AllE F l → ∀ p ∈ l, F p
  | [], _, p, h => by cases h
  | q :: l, h, p, hp => by
    rcases List.mem_cons.1 hp with rfl | hp
    · exact h.1
    · exact h.2.mem p hp
def nodupB : List (Option Tmp) → Bool
  | [] => true
  | x :: l => !l.contains x && nodupB l
theorem nodupB_spec : ∀ {l : List (Option Tmp)}, nodupB l = true → l.Nodup
  | [], _ => List.nodup_nil
  | x :: l, h => by
    simp only [nodupB, Bool.and_eq_true, Bool.not_eq_true'] at h
    exact List.nodup_cons.2 ⟨fun hm => (by rw [List.contains_iff_mem.2 hm] at h; cases h.1), nodupB_spec h.2⟩
def nodupNB : List Nat → Bool
  | [] => true
  | x :: l => !l.contains x && nodupNB l
theorem nodupNB_spec : ∀ {l : List Nat}, nodupNB l = true → l.Nodup
  | [], _ => List.nodup_nil
  | x :: l, h => by
    simp only [nodupNB, Bool.and_eq_true, Bool.not_eq_true'] at h
    exact List.nodup_cons.2 ⟨fun hm => (by rw [List.contains_iff_mem.2 hm] at h; cases h.1), nodupNB_spec h.2⟩
/-- What can be looked up of the region's form. -/
def formE (ops : Array Oper) (N : Nat) (ks ms is : List Nat) : Bool :=
  ((List.range ops.size).all fun j => (ks ++ ms ++ is).contains j && (ops[j]?).any fun o => o.guard.isNone && o.after.all fun e => !Region.binds .any e || decide (e.on < j)) &&
  nodupNB (ks ++ ms ++ is) && nodupB ((ks ++ ms).map (dstOf ops)) && ((ks ++ ms).all fun k => (dstOf ops k).any fun s => decide (s < N)) && is.all fun i => (dstOf ops i).isNone && decide (i < ops.size)

theorem getD_two {listed : Array Bool} {i : Nat} (hi : i < listed.size) : listed.getD i true = listed.getD i false := by simp [hi]
theorem all_listed {listed : Array Bool} {N : Nat} {ks ms is : List Nat} (hB : formE ops N ks ms is = true) (hsz : listed.size = ops.size) (h : Region.ready .any ops listed = []) : ∀ j, j < ops.size → listed.getD j false = true := by
  intro j
  induction j using Nat.strongRecOn with
  | _ j ih =>
    intro hj
    refine Bool.of_not_eq_false fun hf => ?_
    simp only [formE, Bool.and_eq_true] at hB
    have h1 := List.all_eq_true.1 hB.1.1.1.1 j (List.mem_range.2 hj)
    simp only [Bool.and_eq_true] at h1
    have h2 := h1.2
    cases ho : ops[j]? with
    | none => rw [ho] at h2; cases h2
    | some o =>
      rw [ho] at h2
      simp only [Option.any_some, Bool.and_eq_true] at h2
      have : j ∈ Region.ready .any ops listed := mem_ready.2 ⟨by rw [getD_two (by omega)]; exact hf, o, ho, fun e he hb => by
        have h3 := Array.all_eq_true_iff_forall_mem.1 h2.2 e he
        rw [hb, Bool.not_true, Bool.false_or, decide_eq_true_eq] at h3
        exact ih e.on h3 (Nat.lt_trans h3 hj)⟩
      rw [h] at this
      cases this

/-- What holds on the way. -/
structure OnWay (ops : Array Oper) (w0 : World) (rs : List (Nat × TypeId × Array Value)) (vs : List (Nat × Value)) (ns : List MadeE) (a0 : Act) (listed : Array Bool) (G : Nat → Nat) (a : Act) (w : World) : Prop where
  act : a = putsE ops (fun k => listed.getD k false) (fullE vs ns G) a0
  env : Env w0 rs w
  row : ∀ n ∈ ns, listed.getD n.k false = true → RowAt w (G n.k) n.t (if listed.getD n.i false then n.cs else n.z) ∧ w0.heap.size ≤ G n.k ∧ ∀ r ∈ rs, r.1 ≠ G n.k
  apart : ∀ n ∈ ns, ∀ m ∈ ns, listed.getD n.k false = true → listed.getD m.k false = true → n.k ≠ m.k → G n.k ≠ G m.k
  late : ∀ n ∈ ns, listed.getD n.i false = true → listed.getD n.k false = true

theorem getD_up {listed : Array Bool} {k : Nat} (hk : k < listed.size) : (listed.setIfInBounds k true).getD k false = true := by simp [hk]
theorem putsE_append (l m : List (Nat × Value)) : ∀ a, putsE ops L (l ++ m) a = putsE ops L m (putsE ops L l a) := by
  induction l with
  | nil => intro a; rfl
  | cons p l ih => intro a; exact ih _
theorem putsE_ptr (ns : List MadeE) (G G' : Nat → Nat) (h : ∀ n ∈ ns, L n.k = true → G n.k = G' n.k) : ∀ a, putsE ops L (ns.map fun n => (n.k, ptrE (G n.k))) a = putsE ops L (ns.map fun n => (n.k, ptrE (G' n.k))) a := by
  induction ns with
  | nil => intro a; rfl
  | cons n ns ih =>
    intro a
    simp only [List.map_cons, putsE]
    rw [ih fun m hm => h m (List.mem_cons_of_mem _ hm)]
    cases hl : L n.k with
    | false => rfl
    | true => rw [h n (List.mem_cons_self ..) hl]
theorem putsE_full (vs : List (Nat × Value)) (ns : List MadeE) (G G' : Nat → Nat) (h : ∀ n ∈ ns, L n.k = true → G n.k = G' n.k) (a : Act) : putsE ops L (fullE vs ns G) a = putsE ops L (fullE vs ns G') a := by
  unfold fullE
  rw [putsE_append, putsE_append, putsE_ptr ns G G' h]
theorem fullE_keys (vs : List (Nat × Value)) (ns : List MadeE) (G : Nat → Nat) : (fullE vs ns G).map (·.1) = vs.map (·.1) ++ ns.map (·.k) := by
  unfold fullE
  simp [Function.comp_def]
theorem fullE_dsts (vs : List (Nat × Value)) (ns : List MadeE) (G : Nat → Nat) : ((fullE vs ns G).map fun p => dstOf ops p.1) = (vs.map (·.1) ++ ns.map (·.k)).map (dstOf ops) := by
  rw [← fullE_keys vs ns G, List.map_map]
  rfl
theorem slotsE_keys (vs : List (Nat × Value)) (ns : List MadeE) : (slotsE ops vs ns).map (·.1) = vs.map (·.1) ++ ns.map (·.k) := by
  unfold slotsE
  simp [Function.comp_def]

/-- What the form tells. -/
structure FormOk (ops : Array Oper) (N : Nat) (vs : List (Nat × Value)) (ns : List MadeE) : Prop where
  form : formE ops N (vs.map (·.1)) (ns.map (·.k)) (ns.map (·.i)) = true
section
variable {N : Nat} {vs : List (Nat × Value)} {ns : List MadeE}
theorem FormOk.nodup (h : FormOk ops N vs ns) : (vs.map (·.1) ++ ns.map (·.k) ++ ns.map (·.i)).Nodup := by
  have := h.form
  simp only [formE, Bool.and_eq_true] at this
  exact nodupNB_spec this.1.1.1.2
theorem FormOk.dsts (h : FormOk ops N vs ns) : ((vs.map (·.1) ++ ns.map (·.k)).map (dstOf ops)).Nodup := by
  have := h.form
  simp only [formE, Bool.and_eq_true] at this
  exact nodupB_spec this.1.1.2
theorem FormOk.keys (h : FormOk ops N vs ns) : (vs.map (·.1) ++ ns.map (·.k)).Nodup := (List.nodup_append.1 h.nodup).1
theorem FormOk.some_ (h : FormOk ops N vs ns) {k : Nat} (hk : k ∈ vs.map (·.1) ++ ns.map (·.k)) : ∃ s, dstOf ops k = some s ∧ s < N := by
  have := h.form
  simp only [formE, Bool.and_eq_true] at this
  have h1 := List.all_eq_true.1 this.1.2 k hk
  cases hd : dstOf ops k with
  | none => rw [hd] at h1; cases h1
  | some s => rw [hd] at h1; exact ⟨s, rfl, by simpa using h1⟩
theorem FormOk.none_ (h : FormOk ops N vs ns) {k : Nat} (hk : k ∈ ns.map (·.i)) : dstOf ops k = none := by
  have := h.form
  simp only [formE, Bool.and_eq_true] at this
  have h1 := List.all_eq_true.1 this.2 k hk
  simp only [Bool.and_eq_true] at h1
  simpa using h1.1
theorem FormOk.covers (h : FormOk ops N vs ns) {k : Nat} (hk : k < ops.size) : k ∈ vs.map (·.1) ++ ns.map (·.k) ++ ns.map (·.i) := by
  have := h.form
  simp only [formE, Bool.and_eq_true] at this
  have h1 := List.all_eq_true.1 this.1.1.1.1 k (List.mem_range.2 hk)
  simp only [Bool.and_eq_true] at h1
  simpa using h1.1
theorem FormOk.plain (h : FormOk ops N vs ns) {k : Nat} {o : Oper} (ho : ops[k]? = some o) : o.guard = none := by
  have := h.form
  simp only [formE, Bool.and_eq_true] at this
  have h1 := List.all_eq_true.1 this.1.1.1.1 k (List.mem_range.2 (Array.getElem?_eq_some_iff.1 ho).1)
  rw [ho] at h1
  simp only [Bool.and_eq_true, Option.any_some] at h1
  simpa using h1.2.1
end
theorem nodup_app {α : Type} {l m : List α} (h : (l ++ m).Nodup) {x : α} (hl : x ∈ l) (hm : x ∈ m) : False := (List.nodup_append.1 h).2.2 x hl x hm rfl
theorem waits_of {k j : Nat} {o : Oper} (ho : ops[k]? = some o) (h : waitsE ops k j = true) : ∃ e ∈ o.after, Region.binds .any e = true ∧ e.on = j := by
  unfold waitsE at h
  rw [ho] at h
  obtain ⟨e, he, hb⟩ := Array.any_eq_true'.1 h
  simp only [Bool.and_eq_true, beq_iff_eq] at hb
  exact ⟨e, he, hb.1, hb.2⟩

theorem onWay_step {N : Nat} {w0 w : World} {rs : List (Nat × TypeId × Array Value)} {vs : List (Nat × Value)} {ns : List MadeE} {a0 a : Act} {listed : Array Bool} {G : Nat → Nat} {Q : Exit → Act → World → Prop}
    (hF : FormOk ops N vs ns) (hN : a0.tmps.size = N) (hv : AllE (ValE P ops w0 rs vs ns a0) vs) (hn : AllE (MakesE P ops vs ns a0) ns) (hs : listed.size = ops.size) (h : OnWay ops w0 rs vs ns a0 listed G a w) (k : Nat) (hk : k ∈ Region.ready .any ops listed) :
    wpOp P ops Q k (fun a' w' => ∃ G', OnWay ops w0 rs vs ns a0 (listed.setIfInBounds k true) G' a' w') a w := by
  obtain ⟨hun, o, ho, hall⟩ := mem_ready.1 hk
  have hlt : k < ops.size := (Array.getElem?_eq_some_iff.1 ho).1
  have hdn : ∀ j, waitsE ops k j = true → listed.getD j false = true := fun j hj => by
    obtain ⟨e, he, hb, hon⟩ := waits_of ho hj
    rw [← hon]
    exact hall e he hb
  have hun' : listed.getD k false = false := by rw [← getD_two (by omega)]; exact hun
  have hw : Region.wanted o (yielded ops a.tmps) = true := by simp [Region.wanted, hF.plain ho]
  have hup := getD_up (listed := listed) (k := k) (by omega)
  have hfar : ∀ j, j ≠ k → (listed.setIfInBounds k true).getD j false = listed.getD j false := fun j hj => getD_set_ne false (Ne.symm hj)
  have hdst : dstOf ops k = o.dst := by unfold dstOf; rw [ho]; rfl
  unfold wpOp
  rw [ho]
  simp only [hw, if_true]
  left
  have hcov := hF.covers hlt
  rw [List.mem_append, List.mem_append] at hcov
  rcases hcov with (hc | hc) | hc
  · -- it yields a value
    obtain ⟨⟨k2, v⟩, hp, rfl⟩ := List.mem_map.1 hc
    have nk : ∀ n ∈ ns, n.k ≠ k2 := fun n hn e => nodup_app hF.keys hc (List.mem_map.2 ⟨n, hn, e⟩)
    have ni : ∀ n ∈ ns, n.i ≠ k2 := fun n hn e => nodup_app hF.nodup (List.mem_append_left _ hc) (List.mem_map.2 ⟨n, hn, e⟩)
    refine hv.mem _ hp o ho a w (fun i q hq hw s hs' => ?_) (fun s hs' => ?_) h.env Q _ (fun w' hb => ?_)
    · have hq' := List.mem_of_getElem? hq
      obtain ⟨s2, hs2, hlt2⟩ := hF.some_ (List.mem_append_left _ (List.mem_map.2 ⟨q, hq', rfl⟩))
      have es : s2 = s := by rw [hs2] at hs'; injection hs'
      rw [h.act]
      exact putsE_at _ q.1 q.2 s hs' (hdn _ hw) a0 (by rw [hN, ← es]; exact hlt2) (List.mem_append_left _ hq') (by rw [fullE_dsts]; exact hF.dsts)
    · rw [h.act]
      refine putsE_far _ s (fun p hp e => ?_) a0
      rw [slotsE_keys, ← fullE_keys vs ns G] at hs'
      have : some s ∈ dstsE ops ((fullE vs ns G).map (·.1)) := List.mem_map.2 ⟨p.1, List.mem_map.2 ⟨p, hp, rfl⟩, e⟩
      rw [List.contains_iff_mem.2 this] at hs'
      cases hs'
    · refine ⟨G, ?_, h.env.call hb, fun n hn hl => ?_, fun n hn m hm h1 h2 => ?_, fun n hn hl => ?_⟩
      · rw [← hdst, h.act]
        exact putsE_step _ k2 v hun' hup hfar a0 (List.mem_append_left _ hp) (by rw [fullE_keys]; exact hF.keys) (by rw [fullE_dsts]; exact hF.dsts)
      · rw [hfar _ (nk n hn)] at hl
        rw [hfar _ (ni n hn)]
        obtain ⟨r1, r2, r3⟩ := h.row n hn hl
        exact ⟨r1.kept hb, r2, r3⟩
      · rw [hfar _ (nk n hn)] at h1
        rw [hfar _ (nk m hm)] at h2
        exact h.apart n hn m hm h1 h2
      · rw [hfar _ (ni n hn)] at hl
        rw [hfar _ (nk n hn)]
        exact h.late n hn hl
  · -- it makes a variable
    obtain ⟨n, hn', rfl⟩ := List.mem_map.1 hc
    obtain ⟨⟨ok, hok, hop, hz⟩, _⟩ := hn.mem n hn'
    rw [ho] at hok
    injection hok with hok
    subst hok
    have ni : ∀ m ∈ ns, m.i ≠ n.k := fun m hm e => nodup_app hF.nodup (List.mem_append_right _ hc) (List.mem_map.2 ⟨m, hm, e⟩)
    refine wp_alloc_row n.t hop n.z hz fun g w' nw => ?_
    have hG : ∀ m ∈ ns, m.k ≠ n.k → (if m.k = n.k then g else G m.k) = G m.k := fun m _ hne => if_neg hne
    have hgl : ∀ m ∈ ns, listed.getD m.k false = true → G m.k < w.heap.size := fun m hm hl => (h.row m hm hl).1.lt
    have hsame : ∀ m ∈ ns, m.k = n.k → m = n := fun m hm e => by
      have hnd := (List.nodup_append.1 hF.keys).2.1
      obtain ⟨i, hi⟩ := List.mem_iff_getElem?.1 hm
      obtain ⟨j, hj⟩ := List.mem_iff_getElem?.1 hn'
      have hij := nodup_at (l := ns.map (·.k)) hnd (a := n.k) (i := i) (j := j) (by rw [List.getElem?_map, hi, ← e]; rfl) (by rw [List.getElem?_map, hj]; rfl)
      rw [hij, hj] at hi
      injection hi with hi
      exact hi.symm
    refine ⟨fun j => if j = n.k then g else G j, ?_, h.env.call nw.below, fun m hm hl => ?_, fun m hm m' hm' h1 h2 hne => ?_, fun m hm hl => ?_⟩
    · rw [← hdst, h.act, putsE_full vs ns G (fun j => if j = n.k then g else G j) (fun m hm hl => (by
        have hne : m.k ≠ n.k := fun e => by rw [e, hun'] at hl; cases hl
        exact (hG m hm hne).symm))]
      refine putsE_step _ n.k (ptrE g) hun' hup hfar a0 (List.mem_append_right _ (List.mem_map.2 ⟨n, hn', by simp⟩)) (by rw [fullE_keys]; exact hF.keys) (by rw [fullE_dsts]; exact hF.dsts)
    · by_cases e : m.k = n.k
      · have hm2 := hsame m hm e
        subst hm2
        have hni : listed.getD m.i false = false := Bool.of_not_eq_true fun hx => by have := h.late m hm hx; rw [hun'] at this; cases this
        rw [hfar _ (ni m hm), hni]
        simp only [if_true]
        refine ⟨nw.row, ?_, fun r hr er => ?_⟩
        · have := nw.spot; have := h.env.below.size; omega
        · have := (h.env.rows r hr).1.lt; have := nw.spot; omega
      · rw [hfar _ e] at hl
        rw [hfar _ (ni m hm)]
        simp only [if_neg e]
        obtain ⟨r1, r2, r3⟩ := h.row m hm hl
        exact ⟨r1.kept nw.below, r2, r3⟩
    · have hs1 := nw.spot
      by_cases e1 : m.k = n.k
      · have e2 : m'.k ≠ n.k := fun e => hne (e1.trans e.symm)
        rw [hfar _ e2] at h2
        have := hgl m' hm' h2
        simp only [e1, if_true, if_neg e2]
        omega
      · rw [hfar _ e1] at h1
        have hg1 := hgl m hm h1
        by_cases e2 : m'.k = n.k
        · simp only [e2, if_true, if_neg e1]
          omega
        · rw [hfar _ e2] at h2
          simp only [if_neg e1, if_neg e2]
          exact h.apart m hm m' hm' h1 h2 hne
    · rw [hfar _ (ni m hm)] at hl
      by_cases e : m.k = n.k
      · rw [e]; exact hup
      · rw [hfar _ e]; exact h.late m hm hl
  · -- it writes one
    obtain ⟨n, hn', rfl⟩ := List.mem_map.1 hc
    obtain ⟨_, oi, x, y, s, hoi, hop, hx, hwk, hsz, hsi, h1c, hsrc, hval⟩ := hn.mem n hn'
    rw [ho] at hoi
    injection hoi with hoi
    subst hoi
    have hno := hF.none_ hc
    have nk : ∀ m ∈ ns, m.k ≠ n.i := fun m hm e => nodup_app hF.nodup (List.mem_append_right _ (List.mem_map.2 ⟨m, hm, e⟩)) hc
    have kl := hdn _ hwk
    obtain ⟨r1, r2, r3⟩ := h.row n hn' kl
    rw [hun'] at r1
    simp only [Bool.false_eq_true, if_false] at r1
    have hex : a.eval (.tmp x) = .pointer (some ⟨G n.k, 0, none⟩) := by
      show a.tmps.getD x undef = _
      obtain ⟨s2, hs2, hlt2⟩ := hF.some_ (List.mem_append_right _ (List.mem_map.2 ⟨n, hn', rfl⟩))
      have es : s2 = x := by rw [hs2] at hx; injection hx
      rw [h.act]
      exact putsE_at _ n.k (ptrE (G n.k)) x hx kl a0 (by rw [hN, ← es]; exact hlt2) (List.mem_append_right _ (List.mem_map.2 ⟨n, hn', rfl⟩)) (by rw [fullE_dsts]; exact hF.dsts)
    have hey : a.eval (.tmp y) = .agg n.cs := by
      show a.tmps.getD y undef = _
      cases hq : vs[s]? with
      | none => rw [hq] at hsrc; cases hsrc
      | some q =>
        rw [hq] at hsrc hval
        simp only [Option.any_some, Bool.and_eq_true, beq_iff_eq] at hsrc
        simp only [Option.map_some, Option.some.injEq] at hval
        have hq' := List.mem_of_getElem? hq
        obtain ⟨s2, hs2, hlt2⟩ := hF.some_ (List.mem_append_left _ (List.mem_map.2 ⟨q, hq', rfl⟩))
        have es : s2 = y := by rw [hs2] at hsrc; injection hsrc.2
        rw [h.act, ← hval]
        exact putsE_at _ q.1 q.2 y hsrc.2 (hdn _ hsrc.1) a0 (by rw [hN, ← es]; exact hlt2) (List.mem_append_left _ hq') (by rw [fullE_dsts]; exact hF.dsts)
    have hsame : ∀ m ∈ ns, m.i = n.i → m = n := fun m hm e => by
      have hnd := (List.nodup_append.1 hF.nodup).2.1
      obtain ⟨i, hi⟩ := List.mem_iff_getElem?.1 hm
      obtain ⟨j, hj⟩ := List.mem_iff_getElem?.1 hn'
      have hij := nodup_at (l := ns.map (·.i)) hnd (a := n.i) (i := i) (j := j) (by rw [List.getElem?_map, hi, ← e]; rfl) (by rw [List.getElem?_map, hj]; rfl)
      rw [hij, hj] at hi
      injection hi with hi
      exact hi.symm
    refine wp_store_row n.t (.tmp x) (.tmp y) hop (G n.k) n.t n.z n.cs hex hey r1 hsz hsi h1c fun w' p => ?_
    refine ⟨G, ?_, ?_, fun m hm hl => ?_, fun m hm m' hm' h1 h2 => ?_, fun m hm hl => ?_⟩
    · rw [← hdst, hno, h.act]
      show putsE ops _ _ a0 = _
      refine putsE_congr _ (fun q hq => (hfar q.1 fun e => ?_).symm) a0
      have : q.1 ∈ (fullE vs ns G).map (·.1) := List.mem_map.2 ⟨q, hq, rfl⟩
      rw [fullE_keys, e] at this
      exact nodup_app hF.nodup this hc
    · refine ⟨p.below h.env.below h.env.below.size r2, fun r hr => ⟨(h.env.rows r hr).1.grown p.grown fun e => ?_, (h.env.rows r hr).2⟩, h.env.apart⟩
      injection e with e
      exact r3 r hr e
    · rw [hfar _ (nk m hm)] at hl
      by_cases e : m.i = n.i
      · have hm2 := hsame m hm e
        subst hm2
        rw [hup]
        simp only [if_true]
        exact ⟨p.row, r2, r3⟩
      · rw [hfar _ e]
        obtain ⟨s1, s2, s3⟩ := h.row m hm hl
        have hne : m.k ≠ n.k := fun e2 => e (by
          have hnd := (List.nodup_append.1 hF.keys).2.1
          obtain ⟨i, hi⟩ := List.mem_iff_getElem?.1 hm
          obtain ⟨j, hj⟩ := List.mem_iff_getElem?.1 hn'
          have hij := nodup_at (l := ns.map (·.k)) hnd (a := n.k) (i := i) (j := j) (by rw [List.getElem?_map, hi, ← e2]; rfl) (by rw [List.getElem?_map, hj]; rfl)
          rw [hij, hj] at hi
          injection hi with hi
          rw [hi])
        have hgne := h.apart m hm n hn' hl kl hne
        exact ⟨s1.grown p.grown (fun e => by injection e with e; exact hgne e), s2, s3⟩
    · rw [hfar _ (nk m hm)] at h1
      rw [hfar _ (nk m' hm')] at h2
      exact h.apart m hm m' hm' h1 h2
    · rw [hfar _ (nk m hm)]
      by_cases e : m.i = n.i
      · have hm2 := hsame m hm e
        subst hm2
        exact kl
      · rw [hfar _ e] at hl
        exact h.late m hm hl

theorem onWay_any {N : Nat} {w0 : World} {rs : List (Nat × TypeId × Array Value)} {vs : List (Nat × Value)} {ns : List MadeE} {a0 : Act} {Q : Exit → Act → World → Prop}
    (hF : FormOk ops N vs ns) (hN : a0.tmps.size = N) (hv : AllE (ValE P ops w0 rs vs ns a0) vs) (hn : AllE (MakesE P ops vs ns a0) ns)
    (hgo : ∀ (G : Nat → Nat) w', Env w0 ((ns.map fun n => (G n.k, n.t, n.cs)) ++ rs) w' → Q .normal (putsE ops (fun _ => true) (fullE vs ns G) a0) w') :
    ∀ (m : Nat) (listed : Array Bool) (G : Nat → Nat) (a : Act) (w : World), listed.size = ops.size → ((List.range ops.size).countP fun j => !listed.getD j false) ≤ m → OnWay ops w0 rs vs ns a0 listed G a w → wpAny P .any ops Q m listed a w := by
  have fin : ∀ (listed : Array Bool) (G : Nat → Nat) (a : Act) (w : World), (∀ j, j < ops.size → listed.getD j false = true) → OnWay ops w0 rs vs ns a0 listed G a w → Q .normal a w := by
    intro listed G a w hl h
    have hk : ∀ p ∈ fullE vs ns G, listed.getD p.1 false = true := fun p hp => by
      have : p.1 ∈ vs.map (·.1) ++ ns.map (·.k) := by rw [← fullE_keys vs ns G]; exact List.mem_map.2 ⟨p, hp, rfl⟩
      obtain ⟨s, hs, _⟩ := hF.some_ this
      refine hl _ ?_
      unfold dstOf at hs
      cases ho : ops[p.1]? with
      | none => rw [ho] at hs; cases hs
      | some o => exact (Array.getElem?_eq_some_iff.1 ho).1
    have hi : ∀ n ∈ ns, listed.getD n.i false = true := fun n hn' => by
      obtain ⟨_, oi, x, y, s, hoi, _⟩ := hn.mem n hn'
      exact hl _ (Array.getElem?_eq_some_iff.1 hoi).1
    have hkk : ∀ n ∈ ns, listed.getD n.k false = true := fun n hn' => hk (n.k, ptrE (G n.k)) (List.mem_append_right _ (List.mem_map.2 ⟨n, hn', rfl⟩))
    rw [h.act, putsE_congr (L' := fun _ => true) _ hk]
    refine hgo G w ⟨h.env.below, fun r hr => ?_, ?_⟩
    · rcases List.mem_append.1 hr with hr | hr
      · obtain ⟨n, hn', rfl⟩ := List.mem_map.1 hr
        obtain ⟨r1, r2, _⟩ := h.row n hn' (hkk n hn')
        rw [hi n hn'] at r1
        exact ⟨r1, r2⟩
      · exact h.env.rows r hr
    · rw [List.map_append, List.map_map]
      refine List.nodup_append.2 ⟨?_, h.env.apart, fun x hx y hy e => ?_⟩
      · have hnd := (List.nodup_append.1 hF.keys).2.1
        have key : ∀ (l : List MadeE), (∀ n ∈ l, n ∈ ns) → (l.map (·.k)).Nodup → (l.map ((fun r => r.1) ∘ fun n => (G n.k, n.t, n.cs))).Nodup := by
          intro l
          induction l with
          | nil => intro _ _; exact List.nodup_nil
          | cons n l ih =>
            intro hs hd
            simp only [List.map_cons, List.nodup_cons] at hd ⊢
            refine ⟨fun hm => ?_, ih (fun m hm => hs m (List.mem_cons_of_mem _ hm)) hd.2⟩
            obtain ⟨m, hm, e⟩ := List.mem_map.1 hm
            have h1 := hs n (List.mem_cons_self ..)
            have h2 := hs m (List.mem_cons_of_mem _ hm)
            exact h.apart m h2 n h1 (hkk m h2) (hkk n h1) (fun e2 => hd.1 (List.mem_map.2 ⟨m, hm, e2⟩)) e
        exact key ns (fun n h => h) hnd
      · obtain ⟨n, hn', rfl⟩ := List.mem_map.1 hx
        obtain ⟨r, hr, rfl⟩ := List.mem_map.1 hy
        exact (h.row n hn' (hkk n hn')).2.2 r hr e.symm
  intro m
  induction m with
  | zero =>
    intro listed G a w hs hc h
    have hl : ∀ j, j < ops.size → listed.getD j false = true := fun j hj => by
      have h0 := List.countP_eq_zero.1 (Nat.le_zero.1 hc) j (List.mem_range.2 hj)
      simpa using h0
    refine ⟨?_, fin listed G a w hl h⟩
    unfold Region.ready
    refine List.filter_eq_nil_iff.2 fun j hj => ?_
    have hj' := List.mem_range.1 hj
    rw [getD_two (by omega), hl j hj']
    simp
  | succ m ih =>
    intro listed G a w hs hc h
    refine ⟨fun h0 => fin listed G a w (all_listed hF.form hs h0) h, fun k hk => ?_⟩
    refine wpOp_mono (fun a' w' hx => ?_) (onWay_step hF hN hv hn hs h k hk)
    obtain ⟨G', h'⟩ := hx
    refine ih _ G' a' w' (by simpa using hs) ?_ h'
    obtain ⟨hun, o, ho, _⟩ := mem_ready.1 hk
    have hlt : k < ops.size := (Array.getElem?_eq_some_iff.1 ho).1
    have hun' : listed.getD k false = false := by rw [← getD_two (by omega)]; exact hun
    have hlt2 : ((List.range ops.size).countP fun j => !(listed.setIfInBounds k true).getD j false) < ((List.range ops.size).countP fun j => !listed.getD j false) := by
      have hsplit : ∀ (l : List Nat), k ∈ l → (l.countP fun j => !(listed.setIfInBounds k true).getD j false) < (l.countP fun j => !listed.getD j false) := by
        have hle : ∀ (l : List Nat), (l.countP fun j => !(listed.setIfInBounds k true).getD j false) ≤ (l.countP fun j => !listed.getD j false) := fun l => by
          refine List.countP_mono_left fun j _ hj => ?_
          by_cases e : j = k
          · rw [e, hun']; rfl
          · rwa [getD_set_ne false (Ne.symm e)] at hj
        intro l
        induction l with
        | nil => intro h; cases h
        | cons j l ihl =>
          intro hm
          rw [List.countP_cons, List.countP_cons]
          by_cases e : j = k
          · subst e
            rw [getD_up (by omega), hun']
            exact Nat.lt_succ_of_le (hle l)
          · rw [getD_set_ne false (Ne.symm e)]
            exact Nat.add_lt_add_right (ihl ((List.mem_cons.1 hm).resolve_left (Ne.symm e))) _
      exact hsplit _ (List.mem_range.2 hlt)
    omega
/-- WHATEVER THE ORDER, ONE STATE COMES OF IT. -/
theorem region_loose {id N : Nat} {w0 w : World} {rs : List (Nat × TypeId × Array Value)} {a0 : Act} {Q : Exit → Act → World → Prop} (hE : Env w0 rs w) (hm : P.follows .mixedOrders = true) (vs : List (Nat × Value)) (ns : List MadeE)
    (hF : formE ops N (vs.map (·.1)) (ns.map (·.k)) (ns.map (·.i)) = true) (hN : a0.tmps.size = N) (hv : AllE (ValE P ops w0 rs vs ns a0) vs) (hn : AllE (MakesE P ops vs ns a0) ns)
    (hgo : ∀ (G : Nat → Nat) w', Env w0 ((ns.map fun n => (G n.k, n.t, n.cs)) ++ rs) w' → Q .normal (putsE ops (fun _ => true) (fullE vs ns G) a0) w') : (Code.region id ops true).wp P Q a0 w := by
  refine wp_region_any hm ?_
  have hz : ∀ j, (Array.replicate ops.size false).getD j false = false := fun j => by
    by_cases h : j < ops.size <;> simp [h]
  refine onWay_any ⟨hF⟩ hN hv hn hgo ops.size _ (fun _ => 0) a0 w.drew (by simp) ?_ ⟨?_, hE.drew, fun n _ h => ?_, fun n _ m _ h => ?_, fun n _ h => ?_⟩
  · exact Nat.le_trans List.countP_le_length (by simp)
  · have none_ : ∀ (l : List (Nat × Value)) (a : Act), putsE ops (fun k => (Array.replicate ops.size false).getD k false) l a = a := by
      intro l
      induction l with
      | nil => intro a; rfl
      | cons p l ih =>
        intro a
        unfold putsE
        rw [if_neg (show ¬ (Array.replicate ops.size false).getD p.1 false = true by rw [hz]; decide)]
        exact ih a
    exact (none_ _ _).symm
  · rw [hz] at h; cases h
  · rw [hz] at h; cases h
  · rw [hz] at h; cases h

/-- The slots, one behind the other. -/
def putAll : List (Tmp × Value) → Act → Act
  | [], a => a
  | (d, v) :: l, a => putAll l (a.put (some d) v)
theorem putsE_all (l : List (Nat × Value)) : ∀ (ds : List Tmp) (a : Act), (l.map fun p => dstOf ops p.1) = ds.map some → putsE ops (fun _ => true) l a = putAll (ds.zip (l.map (·.2))) a := by
  induction l with
  | nil => intro ds a h; cases ds <;> rfl
  | cons p l ih =>
    obtain ⟨k, v⟩ := p
    intro ds a h
    cases ds with
    | nil => cases h
    | cons d ds =>
      simp only [List.map_cons, List.cons.injEq] at h
      simp only [putsE, if_true, List.map_cons, List.zip_cons_cons, putAll]
      rw [h.1, ih ds _ h.2]
theorem region_state {id N : Nat} {w0 w : World} {rs : List (Nat × TypeId × Array Value)} {a0 : Act} {Q : Exit → Act → World → Prop} (hE : Env w0 rs w) (hm : P.follows .mixedOrders = true) (vs : List (Nat × Value)) (ns : List MadeE) (ds : List Tmp)
    (hF : formE ops N (vs.map (·.1)) (ns.map (·.k)) (ns.map (·.i)) = true) (hd : (vs.map (·.1) ++ ns.map (·.k)).map (dstOf ops) = ds.map some) (hN : a0.tmps.size = N) (hv : AllE (ValE P ops w0 rs vs ns a0) vs) (hn : AllE (MakesE P ops vs ns a0) ns)
    (hgo : ∀ (G : Nat → Nat) w', Env w0 ((ns.map fun n => (G n.k, n.t, n.cs)) ++ rs) w' → Q .normal (putAll (ds.zip (vs.map (·.2) ++ ns.map fun n => ptrE (G n.k))) a0) w') : (Code.region id ops true).wp P Q a0 w := by
  refine region_loose hE hm vs ns hF hN hv hn fun G w' hE' => ?_
  have e : (fullE vs ns G).map (·.2) = vs.map (·.2) ++ ns.map fun n => ptrE (G n.k) := by
    unfold fullE
    simp [Function.comp_def]
  rw [putsE_all _ ds a0 (by rw [fullE_dsts]; exact hd), e]
  exact hgo G w' hE'

variable {w0 : World} {rs : List (Nat × TypeId × Array Value)} {vs : List (Nat × Value)} {ns : List MadeE} {a0 : Act} {p : Nat × Value}
/-- A call whose contract is 'it comes back with v; what was there is as it was'. -/
theorem valE_call (k : Nat) (v : Value) (f : FuncId) (args : Array Value) (C : ∀ w, Calls P f args w (RetV w v))
    (hr : ∀ o, ops[k]? = some o → ∀ (a : Act) (w : World), (∀ (i : Nat) (q : Nat × Value), vs[i]? = some q → waitsE ops k q.1 = true → ∀ s, dstOf ops q.1 = some s → a.tmps.getD s undef = q.2) →
      (∀ s, (dstsE ops ((slotsE ops vs ns).map (·.1))).contains (some s) = false → a.tmps.getD s undef = a0.tmps.getD s undef) → (execOp a.eval o).run P w = .ok (.enter f args) w) : ValE P ops w0 rs vs ns a0 (k, v) := by
  intro o ho a w h1 h2 hE Q K hK
  unfold Oper.wp
  rw [hr o ho a w h1 h2, Oper.upon_enter]
  refine (C w).mono fun e w' he => ?_
  obtain ⟨rfl, hb⟩ := he
  exact hK w' hb
/-- It yields v and leaves the world. -/
theorem valE_run (k : Nat) (v : Value)
    (hr : ∀ o, ops[k]? = some o → ∀ (a : Act) (w : World), (∀ (i : Nat) (q : Nat × Value), vs[i]? = some q → waitsE ops k q.1 = true → ∀ s, dstOf ops q.1 = some s → a.tmps.getD s undef = q.2) →
      (∀ s, (dstsE ops ((slotsE ops vs ns).map (·.1))).contains (some s) = false → a.tmps.getD s undef = a0.tmps.getD s undef) → Env w0 rs w → (execOp a.eval o).run P w = .ok (.value v) w) : ValE P ops w0 rs vs ns a0 (k, v) := by
  intro o ho a w h1 h2 hE Q K hK
  unfold Oper.wp
  rw [hr o ho a w h1 h2 hE, Oper.upon_value]
  exact hK w (Below.refl _ _)
end
end Go.Proofs.Ythipdfmaaeoijaa
end
section
namespace Go.Proofs.Ythipdfmaaeoijaa
open Go.RowKit
set_option linter.unusedVariables false

section
variable {P : Program} {w : World} {o : Oper} {a : Act}
theorem run_call_func (f : FuncId) (xs : Array Operand) (ts : Array TypeId) (ho : o.op = .call ⟨.value (.func f), xs, ts⟩) (args : Array Value) (hx : xs.map a.eval = args) (hf : (callFunc f args).run P w = .ok (.enter f args) w) : (execOp a.eval o).run P w = .ok (.enter f args) w := by
  have e : execOp a.eval o = callFunc f (#[] ++ xs.map a.eval ++ #[]) := by
    obtain ⟨dst, op, ty, pos, after, guard⟩ := o
    simp only at ho
    subst ho
    rfl
  rw [e, hx]
  simpa using hf
theorem run_part (ty : TypeId) (x : Operand) (ho : o.op = .load ty x) (g k : Nat) (hx : a.eval x = .pointer (some ⟨g, k, none⟩)) (t : TypeId) (l m : List Nat) (d : TypeDesc) (hr : RowAt w g t (natsC l)) (hp : (l.drop k).take m.length = m)
    (hu : P.underlying ty = some d) (hd : d.isRow = true) (hs : (P.info? ty).map (·.size) = some m.length) : (execOp a.eval o).run P w = .ok (.value (.agg (natsC m))) w := by
  have hc : w.rangeAt g k (cellsN m) := by
    have h := rangeAt_row (k := k) (n := m.length) hr
    rw [natsC_list] at h
    unfold cellsN at h
    rwa [← List.map_drop, ← List.map_take, hp] at h
  unfold execOp
  simp only [ho, hx, Instr.loadAt, Instr.sureAddr, Sem.run_bind, Sem.run_pure, Result.andThen_ok, run_loadVar_mid w g k ty (cellsN m) d hc hu hd (by rw [cellsN_length, hs])]
  rfl
theorem qE_part {ops : Array Oper} {rest : List Oper} {K : Act → Prop} {w0 : World} {rs : List (Nat × TypeId × Array Value)} (hw : Region.wanted o (yielded ops a.tmps) = true) (ty : TypeId) (x : Operand) (ho : o.op = .load ty x) (i g k : Nat) (t : TypeId) (l m : List Nat) (d : TypeDesc) (hi : rs[i]? = some (g, t, natsC l)) (hx : a.eval x = .pointer (some ⟨g, k, none⟩)) (hp : (l.drop k).take m.length = m)
    (hu : P.underlying ty = some d) (hd : d.isRow = true) (hs : (P.info? ty).map (·.size) = some m.length)
    (h : wpQuiet P ops (Env w0 rs) K rest (a.put o.dst (.agg (natsC m)))) : wpQuiet P ops (Env w0 rs) K (o :: rest) a :=
  q_run hw (fun w hE => run_part ty x ho g k hx t l m d (hE.row i hi) hp hu hd hs) h
end

/-- Four numbers, one behind the other. -/
def rungL (a b c d : Nat) : List Nat := elemL a ++ elemL b ++ elemL c ++ elemL d
theorem rungL_length (a b c d : Nat) : (rungL a b c d).length = 20 := by simp [rungL, elemL_length]
theorem five (x : Nat) : ∃ p q r s t, elemL x = [p, q, r, s, t] := by
  unfold elemL
  rw [digL5]
  exact ⟨_, _, _, _, _, rfl⟩
theorem rungL_0 (a b c d : Nat) : ((rungL a b c d).drop 0).take (elemL a).length = elemL a := by
  unfold rungL
  obtain ⟨p, q, r, s, t, h⟩ := five a
  rw [h]
  simp
theorem rungL_1 (a b c d : Nat) : ((rungL a b c d).drop 5).take (elemL b).length = elemL b := by
  unfold rungL
  obtain ⟨p, q, r, s, t, h⟩ := five a
  obtain ⟨p', q', r', s', t', h'⟩ := five b
  rw [h, h']
  simp
theorem rungL_2 (a b c d : Nat) : ((rungL a b c d).drop 10).take (elemL c).length = elemL c := by
  unfold rungL
  obtain ⟨p, q, r, s, t, h⟩ := five a
  obtain ⟨p', q', r', s', t', h'⟩ := five b
  obtain ⟨p'', q'', r'', s'', t'', h''⟩ := five c
  rw [h, h', h'']
  simp
theorem rungL_3 (a b c d : Nat) : ((rungL a b c d).drop 15).take (elemL d).length = elemL d := by
  unfold rungL
  obtain ⟨p, q, r, s, t, h⟩ := five a
  obtain ⟨p', q', r', s', t', h'⟩ := five b
  obtain ⟨p'', q'', r'', s'', t'', h''⟩ := five c
  obtain ⟨p3, q3, r3, s3, t3, h3⟩ := five d
  rw [h, h', h'', h3]
  simp
theorem Try.szR : (Try.prog.info? 77).map (·.size) = some 20 := by kernel_rfl
theorem Try.zeroR : (Try.prog.info? 77).map (·.zero) = some (some (.agg (natsC (rungL 0 0 0 0)))) := by kernel_rfl
theorem build_rungs (w : World) (a b c d : Nat) :
    (Instr.build 77 #[(0, .agg (natsC (elemL a))), (1, .agg (natsC (elemL b))), (2, .agg (natsC (elemL c))), (3, .agg (natsC (elemL d)))]).run Try.prog w = .ok (.agg (natsC (rungL a b c d))) w := by
  obtain ⟨j, hj, hj2⟩ := Option.map_eq_some_iff.1 Try.zeroR
  obtain ⟨i, hi, hi2⟩ := Option.map_eq_some_iff.1 Try.sz5e
  obtain ⟨p, q, r, s, t, h⟩ := five a
  obtain ⟨p', q', r', s', t', h'⟩ := five b
  obtain ⟨p'', q'', r'', s'', t'', h''⟩ := five c
  obtain ⟨p3, q3, r3, s3, t3, h3⟩ := five d
  have hu := Try.underlying77
  unfold rungL
  rw [h, h', h'', h3]
  have hz : natsC (rungL 0 0 0 0) = #[.int .u64 0, .int .u64 0, .int .u64 0, .int .u64 0, .int .u64 0, .int .u64 0, .int .u64 0, .int .u64 0, .int .u64 0, .int .u64 0, .int .u64 0, .int .u64 0, .int .u64 0, .int .u64 0, .int .u64 0, .int .u64 0, .int .u64 0, .int .u64 0, .int .u64 0, .int .u64 0] := rfl
  rw [hz] at hj2
  simp [Instr.build, zeroValue, typeInfo, hj, hj2, run_underlying hu, sizeOf, hi, hi2, Instr.fill, Value.cells, go_sem, natsC, cellsN]
theorem run_buildR {w : World} {o : Oper} {a : Act} (x y z u : Operand) (ho : o.op = .build 77 #[(0, x), (1, y), (2, z), (3, u)]) (p q r s : Nat) (hx : a.eval x = .agg (natsC (elemL p))) (hy : a.eval y = .agg (natsC (elemL q))) (hz : a.eval z = .agg (natsC (elemL r))) (hu : a.eval u = .agg (natsC (elemL s))) :
    (execOp a.eval o).run Try.prog w = .ok (.value (.agg (natsC (rungL p q r s)))) w := by
  unfold execOp
  simp [ho, hx, hy, hz, hu, build_rungs w p q r s]
theorem build_rungs3 (w : World) (a c d : Nat) :
    (Instr.build 77 #[(0, .agg (natsC (elemL a))), (2, .agg (natsC (elemL c))), (3, .agg (natsC (elemL d)))]).run Try.prog w = .ok (.agg (natsC (rungL a 0 c d))) w := by
  obtain ⟨j, hj, hj2⟩ := Option.map_eq_some_iff.1 Try.zeroR
  obtain ⟨i, hi, hi2⟩ := Option.map_eq_some_iff.1 Try.sz5e
  obtain ⟨p, q, r, s, t, h⟩ := five a
  obtain ⟨p'', q'', r'', s'', t'', h''⟩ := five c
  obtain ⟨p3, q3, r3, s3, t3, h3⟩ := five d
  have hu := Try.underlying77
  unfold rungL
  rw [h, h'', h3]
  have hz : natsC (rungL 0 0 0 0) = #[.int .u64 0, .int .u64 0, .int .u64 0, .int .u64 0, .int .u64 0, .int .u64 0, .int .u64 0, .int .u64 0, .int .u64 0, .int .u64 0, .int .u64 0, .int .u64 0, .int .u64 0, .int .u64 0, .int .u64 0, .int .u64 0, .int .u64 0, .int .u64 0, .int .u64 0, .int .u64 0] := rfl
  rw [hz] at hj2
  have h0 : elemL 0 = [0, 0, 0, 0, 0] := rfl
  rw [h0]
  simp [Instr.build, zeroValue, typeInfo, hj, hj2, run_underlying hu, sizeOf, hi, hi2, Instr.fill, Value.cells, go_sem, natsC, cellsN]
theorem run_buildR3 {w : World} {o : Oper} {a : Act} (x z u : Operand) (ho : o.op = .build 77 #[(0, x), (2, z), (3, u)]) (p r s : Nat) (hx : a.eval x = .agg (natsC (elemL p))) (hz : a.eval z = .agg (natsC (elemL r))) (hu : a.eval u = .agg (natsC (elemL s))) :
    (execOp a.eval o).run Try.prog w = .ok (.value (.agg (natsC (rungL p 0 r s)))) w := by
  unfold execOp
  simp [ho, hx, hz, hu, build_rungs3 w p r s]
theorem cf_choose (args : Array Value) (w : World) : (callFunc 54 args).run Try.prog w = .ok (.enter 54 args) w := by go_simp
end Go.Proofs.Ythipdfmaaeoijaa
end
