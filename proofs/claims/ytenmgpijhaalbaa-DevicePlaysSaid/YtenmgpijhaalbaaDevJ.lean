/-
  Several devices of the call's own, side by side ('Devs'): what is done to one leaves the others. Conditions: as each theorem names them.
-/
import Derived.Test.YtenmgpijhaalbaaDevI
namespace Go.Proofs.Ytenmgpijhaalbaa
open Go.RowKit
set_option linter.unusedVariables false
set_option maxRecDepth 20000

def DevIn (w : World) (F : Nat → Prop) (g : Nat) (d : Dev) : Prop := ∃ gn cn gs cs vp, DevIs w g gn cn gs cs vp d ∧ ∀ k, Foot g gn gs vp k → F k
/-- The devices ds, no two of which share a block, and bytes bs that lie in none of their blocks. -/
def Devs (w0 w : World) (ds : List (Nat × Dev)) (bs : List (Value × List UInt8)) : Prop :=
  Below w0.heap.size w0 w ∧ ∃ F : Nat → Nat → Prop, (∀ i g d, ds[i]? = some (g, d) → DevIn w (F i) g d) ∧ (∀ i j k, i ≠ j → F i k → ¬ F j k) ∧ (∀ i k, F i k → w0.heap.size ≤ k ∧ k < w.heap.size) ∧ ∀ x ∈ bs, Bs w x.1 x.2 ∧ ∀ i k, x.1.ownBlock = some k → k < w.heap.size ∧ ¬ F i k
section
variable {w0 w w' : World} {g i : Nat} {d d' : Dev} {ds : List (Nat × Dev)} {bs : List (Value × List UInt8)} {F G : Nat → Prop}
theorem DevIn.turned (h : DevIn w F g d) (ht : Turns G w w') (hG : ∀ k, F k → ¬ G k) : DevIn w' F g d := by
  obtain ⟨gn, cn, gs, cs, vp, h, hF⟩ := h
  exact ⟨gn, cn, gs, cs, vp, h.turned ht fun k hk => hG k (hF k hk), hF⟩
theorem Devs.start (w : World) : Devs w w [] [] := ⟨Below.refl _ _, fun _ _ => False, by simp, fun _ _ _ _ h => h.elim, fun _ _ h => h.elim, fun x hx => nomatch hx⟩
theorem Devs.below (h : Devs w0 w ds bs) : Below w0.heap.size w0 w := h.1
theorem Devs.ok (h : Devs w0 w ds bs) (hi : ds[i]? = some (g, d)) : d.Ok := by
  obtain ⟨_, F, h1, _⟩ := h
  obtain ⟨_, _, _, _, _, h, _⟩ := h1 i g d hi
  exact h.ok
theorem Devs.kept (h : Devs w0 w ds bs) (hb : Below w.heap.size w w') : Devs w0 w' ds bs := by
  obtain ⟨b, F, h1, h2, h3, h4⟩ := h
  exact ⟨below_size b hb, F, fun i g d hi => (h1 i g d hi).turned (G := fun _ => False) (Turns.of_below _ hb) fun _ _ h => h, h2, fun i k hk => ⟨(h3 i k hk).1, Nat.lt_of_lt_of_le (h3 i k hk).2 hb.size⟩, fun x hx => ⟨(h4 x hx).1.below hb, fun i k hk => ⟨Nat.lt_of_lt_of_le ((h4 x hx).2 i k hk).1 hb.size, ((h4 x hx).2 i k hk).2⟩⟩⟩
/-- One more. -/
theorem Devs.more (h : Devs w0 w ds bs) (hd : DevOf w w' g d) : Devs w0 w' (ds ++ [(g, d)]) bs := by
  obtain ⟨b, F, h1, h2, h3, h4⟩ := h
  obtain ⟨b2, gn, cn, gs, cs, vp, hd, hF⟩ := hd
  have hl : ∀ i g d, ds[i]? = some (g, d) → i < ds.length := fun i g d hi => (List.getElem?_eq_some_iff.1 hi).1
  refine ⟨below_size b b2, fun j k => if j = ds.length then (w.heap.size ≤ k ∧ k < w'.heap.size) else F j k, fun j g' d' hj => ?_, fun a c k hac ha hc => ?_, fun j k hk => ?_, fun x hx => ⟨(h4 x hx).1.below b2, fun j k hk => ⟨Nat.lt_of_lt_of_le ((h4 x hx).2 j k hk).1 b2.size, fun hf => ?_⟩⟩⟩
  · rw [List.getElem?_append] at hj
    split at hj
    · rename_i hlt
      have e : (fun k => if j = ds.length then (w.heap.size ≤ k ∧ k < w'.heap.size) else F j k) = F j := by
        funext k
        rw [if_neg (by omega)]
      dsimp only
      rw [e]
      exact (h1 j g' d' hj).turned (G := fun _ => False) (Turns.of_below _ b2) fun _ _ h => h
    · rename_i hge
      have e0 : j = ds.length := by
        have := (List.getElem?_eq_some_iff.1 hj).1
        simp at this
        omega
      subst e0
      simp at hj
      obtain ⟨rfl, rfl⟩ := hj
      refine ⟨gn, cn, gs, cs, vp, hd, fun k hk => ?_⟩
      dsimp only
      rw [if_pos rfl]
      exact ⟨hF k hk, hd.lt hk⟩
  · dsimp only at ha hc
    split at ha
    · split at hc
      · omega
      · have := (h3 c k hc).2
        omega
    · split at hc
      · have := (h3 a k ha).2
        omega
      · exact h2 a c k hac ha hc
  · dsimp only at hk
    split at hk
    · have := b.size
      omega
    · have := h3 j k hk
      have := b2.size
      omega
  · have h5 := (h4 x hx).2 j k hk
    dsimp only at hf
    split at hf
    · omega
    · exact h5.2 hf
/-- One of them is turned. -/
theorem Devs.ret (h : Devs w0 w ds bs) (hi : ds[i]? = some (g, d)) {f : FuncId} {args : Array Value} {Pr : Program} {v : Value} (hc : ∀ gn cn gs cs vp, DevIs w g gn cn gs cs vp d → (∀ k, Foot g gn gs vp k → w0.heap.size ≤ k) → Calls Pr f args w (DevRet w g gn cn gs cs vp d' v)) :
    Calls Pr f args w fun e w' => e = .returned v ∧ Devs w0 w' (ds.set i (g, d')) bs := by
  obtain ⟨b, F, h1, h2, h3, h4⟩ := h
  obtain ⟨gn, cn, gs, cs, vp, hd, hF⟩ := h1 i g d hi
  refine (hc gn cn gs cs vp hd fun k hk => (h3 i k (hF k hk)).1).mono fun e w' ⟨vp', he, hd', ht, hv⟩ => ⟨he, ?_⟩
  have ht2 : Turns (F i) w w' := ht.mono fun k _ hk => hF k hk
  have hsz := ht.size
  refine ⟨ht2.below b b.size fun k hk => (h3 i k hk).1, fun j k => if j = i then Wide (F i) w w' k else F j k, fun j g' d2 hj => ?_, fun a c k hac ha hc => ?_, fun j k hk => ?_, fun x hx => ⟨ht2.bs (h4 x hx).1 fun k hk => ((h4 x hx).2 i k hk).2, fun j k hk => ⟨Nat.lt_of_lt_of_le ((h4 x hx).2 j k hk).1 hsz, fun hf => ?_⟩⟩⟩
  · rw [List.getElem?_set] at hj
    split at hj
    · rename_i e
      subst e
      split at hj
      · injection hj with hj
        injection hj with e1 e2
        subst e1 e2
        refine ⟨gn, cn, gs, cs, vp', hd', fun k hk => ?_⟩
        dsimp only
        rw [if_pos rfl]
        rcases hk with hk | hk | hk | hk
        · exact .inl (hF k (.inl hk))
        · exact .inl (hF k (.inr (.inl hk)))
        · exact .inl (hF k (.inr (.inr (.inl hk))))
        · rcases hv k hk with h | h
          · exact .inl (hF k (.inr (.inr (.inr h))))
          · exact .inr ⟨h, hd'.lt (.inr (.inr (.inr hk)))⟩
      · cases hj
    · rename_i hne
      have e : (fun k => if j = i then Wide (F i) w w' k else F j k) = F j := by
        funext k
        rw [if_neg (fun e => hne e.symm)]
      dsimp only
      rw [e]
      exact (h1 j g' d2 hj).turned ht2 fun k hk => h2 j i k (fun e => hne e.symm) hk
  · dsimp only at ha hc
    split at ha
    · rename_i ea
      rw [if_neg (fun e => hac (ea.trans e.symm))] at hc
      rcases ha with ha | ha
      · exact h2 i c k (fun e => hac (ea.trans e)) ha hc
      · have := (h3 c k hc).2
        omega
    · split at hc
      · rename_i ea ec
        rcases hc with hc | hc
        · exact h2 a i k ea ha hc
        · have := (h3 a k ha).2
          omega
      · exact h2 a c k hac ha hc
  · dsimp only at hk
    split at hk
    · rcases hk with hk | hk
      · have := h3 i k hk
        omega
      · have := b.size
        omega
    · have := h3 j k hk
      omega
  · dsimp only at hf
    split at hf
    · rcases hf with hf | hf
      · exact ((h4 x hx).2 i k hk).2 hf
      · have := ((h4 x hx).2 i k hk).1
        omega
    · exact ((h4 x hx).2 j k hk).2 hf
/-- Bytes of a later time. -/
theorem Devs.note (h : Devs w0 w ds bs) {v : Value} {l : List UInt8} (ho : OwnB w' w.heap.size 5 v l) (hb : Below w.heap.size w w') : Devs w0 w' ds ((v, l) :: bs) := by
  obtain ⟨b, F0, g1, g2, g3, g4⟩ := h
  refine ⟨below_size b hb, F0, fun i g d hi => (g1 i g d hi).turned (G := fun _ => False) (Turns.of_below _ hb) fun _ _ h => h, g2, fun i k hk => ⟨(g3 i k hk).1, Nat.lt_of_lt_of_le (g3 i k hk).2 hb.size⟩, fun x hx => ?_⟩
  rcases List.mem_cons.1 hx with rfl | hx
  · refine ⟨ho.bs, fun i k hk => ?_⟩
    have e1 := ho.rows k hk
    obtain ⟨cur, hr⟩ := own_typed ho hk
    exact ⟨hr.lt, fun hf => by have := (g3 i k hf).2; omega⟩
  · exact ⟨(g4 x hx).1.below hb, fun i k hk => ⟨Nat.lt_of_lt_of_le ((g4 x hx).2 i k hk).1 hb.size, ((g4 x hx).2 i k hk).2⟩⟩
theorem Devs.bs_ (h : Devs w0 w ds bs) (i : Nat) {v : Value} {l : List UInt8} (hi : bs[i]? = some (v, l)) : Bs w v l := by
  obtain ⟨_, F, h1, h2, h3, h4⟩ := h
  exact (h4 _ (List.mem_of_getElem? hi)).1
theorem Devs.less {x : Value × List UInt8} (h : Devs w0 w ds (x :: bs)) : Devs w0 w ds bs := by
  obtain ⟨b, F, h1, h2, h3, h4⟩ := h
  exact ⟨b, F, h1, h2, h3, fun y hy => h4 y (List.mem_cons_of_mem _ hy)⟩
theorem Devs.of1 (h : DevOf w0 w g d) : Devs w0 w [(g, d)] [] := by
  obtain ⟨b, gn, cn, gs, cs, vp, h, hF⟩ := h
  refine ⟨b, fun i k => i = 0 ∧ Foot g gn gs vp k, fun i g' d' hi => ?_, fun i j k hij hi hj => hij (hi.1.trans hj.1.symm), fun i k hk => ⟨hF k hk.2, h.lt hk.2⟩, fun x hx => nomatch hx⟩
  match i, hi with
  | 0, hi =>
    injection hi with hi
    injection hi with e1 e2
    subst e1 e2
    exact ⟨gn, cn, gs, cs, vp, h, fun k hk => ⟨rfl, hk⟩⟩
theorem Devs.of (h : Devs w0 w ds bs) (hi : ds[i]? = some (g, d)) : DevOf w0 w g d := by
  obtain ⟨b, F, h1, h2, h3, h4⟩ := h
  obtain ⟨gn, cn, gs, cs, vp, hd, hF⟩ := h1 i g d hi
  exact ⟨b, gn, cn, gs, cs, vp, hd, fun k hk => (h3 i k (hF k hk)).1⟩
theorem devWrite_s (h : Devs w0 w ds bs) (k : Nat) (hi : ds[k]? = some (g, d)) (i : Int) (vb : Value) (b : List UInt8) (hb : Bs w vb b) (hp : d.pend.length ≤ 1000000) :
    Calls Try.prog 11 #[.pointer (some ⟨g, 0, none⟩), .int .i64 i, vb] w fun e w' => e = .returned (.int .i64 (d.writeE i b)) ∧ Devs w0 w' (ds.set k (g, d.write i b)) bs :=
  h.ret hi fun gn cn gs cs vp hd _ => devWrite_any w g gn cn gs cs vp d hd i vb b hb hp
theorem devFuse_s (h : Devs w0 w ds bs) (k : Nat) (hi : ds[k]? = some (g, d)) (n : Int) (hn : -9223372036854775808 ≤ n ∧ n ≤ 9223372036854775807) : Calls Try.prog 17 #[.pointer (some ⟨g, 0, none⟩), .int .i64 n] w fun e w' => e = .returned (.tuple #[]) ∧ Devs w0 w' (ds.set k (g, d.set n)) bs :=
  h.ret hi fun gn cn gs cs vp hd _ => devFuse_any w g gn cn gs cs vp d hd n hn
theorem devSync_s (h : Devs w0 w ds bs) (k : Nat) (hi : ds[k]? = some (g, d)) : Calls Try.prog 13 #[.pointer (some ⟨g, 0, none⟩)] w fun e w' => e = .returned (.int .i64 d.syncE) ∧ Devs w0 w' (ds.set k (g, d.sync)) bs :=
  h.ret hi fun gn cn gs cs vp hd _ => devSync_any w g gn cn gs cs vp d hd
theorem devNew_s (h : Devs w0 w ds bs) (n : Nat) (h1 : 1 ≤ n) (h2 : n ≤ 600) :
    Calls Try.prog 9 #[.int .i64 (n : Int)] w fun e w' => ∃ g, e = .returned (.tuple #[.pointer (some ⟨g, 0, none⟩), .int .i64 0]) ∧ Devs w0 w' (ds ++ [(g, Dev.new n)]) bs :=
  (devNew_of w n h1 h2).mono fun e w' ⟨g, he, hd⟩ => ⟨g, he, h.more hd⟩
end
end Go.Proofs.Ytenmgpijhaalbaa
