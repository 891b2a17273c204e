/-
  Contracts of Sum by a Meter that keeps, and by none. Conditions: as each theorem names them.
-/
import Derived.Test.YtngbcopilhibgaaDoorShaV
import Derived.Deep.Onto
namespace Go.Proofs.YtngbcopilhibgaaDoor
open Go.RowKit
set_option linter.unusedVariables false
set_option maxRecDepth 20000

/-- Rows behind a call that writes at two. -/
theorem RowAt.two {w w' : World} {a b : Option Nat} {x : Nat} {t : TypeId} {cs : Array Value} (h : RowAt w x t cs) (hg : GrownTwo w w' a b) (h1 : some x ≠ a) (h2 : some x ≠ b) : RowAt w' x t cs := (hg.block x h.lt h1 h2).trans h
theorem Tabs.two {w w' : World} {a b : Option Nat} (h : Tabs w) (hg : GrownTwo w w' a b) (h1 : some 0 ≠ a) (h2 : some 1 ≠ a) (h3 : some 0 ≠ b) (h4 : some 1 ≠ b) : Tabs w' :=
  ⟨fun j hj => (World.cell?_of_block (hg.block _ (World.block_lt_of_cell? w _ (h.cubes j hj)) h1 h3)).trans (h.cubes j hj), fun j hj => (World.cell?_of_block (hg.block _ (World.block_lt_of_cell? w _ (h.squares j hj)) h2 h4)).trans (h.squares j hj)⟩
/-- Rows of the call's own, of another type than the one that was written. -/
theorem own_two {w w' : World} {base base2 g n k : Nat} {t e : TypeId} {v s : Value} {xs ys : List Value} {cs : Array Value} (h : w.ownsRow base t 1 v n xs) (hr : RowAt w g 83 cs) (ho : w.ownsRow base2 e 1 s k ys) (hg : GrownTwo w w' (some g) s.ownBlock) (h1 : t ≠ 83) (h2 : t ≠ e) : w'.ownsRow base t 1 v n xs := by
  refine ⟨h.1, ?_⟩
  rcases h.2 with ⟨e1, e2⟩ | ⟨b, cap, cur, hv, hb, hk, h3⟩
  · exact .inl ⟨e1, e2⟩
  · refine .inr ⟨b, cap, cur, hv, hb, ?_, h3⟩
    have hlt : b < w.heap.size := by
      rcases Nat.lt_or_ge b w.heap.size with hl | hl
      · exact hl
      · rw [Array.getElem?_eq_none hl] at hk; cases hk
    refine (hg.block b hlt (fun e3 => ?_) (fun e3 => ?_)).trans hk
    · injection e3 with e3
      subst e3
      rw [hr] at hk
      injection hk with hk
      injection hk with _ h5
      exact h1 h5.symm
    · rcases ho.2 with ⟨rfl, _⟩ | ⟨b2, cap2, cur2, rfl, _, hk2, _⟩
      · simp [Value.ownBlock] at e3
      · have e4 : b = b2 := by simpa [Value.ownBlock] using e3
        subst e4
        rw [hk] at hk2
        injection hk2 with hk2
        injection hk2 with _ h5
        exact h2 h5

/-- What a call has of a Meter that it made, and that keeps what it digests. -/
structure MeetK (w0 : World) (g n : Nat) (ls : List (List UInt8)) (w : World) : Prop where
  below : Below w0.heap.size w0 w
  tabs0 : Tabs w0
  far : w0.heap.size ≤ g
  rows : ∃ s vs, RowAt w g 83 (meterC true n s) ∧ w.ownsRow w0.heap.size 27 1 s vs.length vs ∧ vs.length = ls.length ∧ ∀ j (h1 : j < vs.length) (h2 : j < ls.length), OwnB w w0.heap.size 5 vs[j] ls[j]
theorem MeetK.tabs {w0 w : World} {g n : Nat} {ls : List (List UInt8)} (h : MeetK w0 g n ls w) : Tabs w := h.tabs0.below h.below
theorem ownB_low {w : World} {base base2 : Nat} {e : TypeId} {v : Value} {l : List UInt8} (h : OwnB w base e v l) (hb : base2 ≤ base) : OwnB w base2 e v l := World.ownsRow.mono h hb
theorem MeetK.kept {w0 w w' : World} {g n : Nat} {ls : List (List UInt8)} (h : MeetK w0 g n ls w) (hb : Below w.heap.size w w') : MeetK w0 g n ls w' := by
  obtain ⟨s, vs, h1, h2, h3, h4⟩ := h.rows
  exact ⟨below_size h.below hb, h.tabs0, h.far, s, vs, h1.kept hb, World.ownsRow.kept (row := none) h2 ⟨hb.os, hb.tape, hb.output, hb.size, fun k hk _ => hb.block k hk⟩ (by cases s.ownBlock <;> simp), h3, fun j a b => (h4 j a b).below hb⟩
theorem MeetK.new {w0 w w' : World} {g : Nat} (ht : Tabs w0) (hb : Below w0.heap.size w0 w) (h : NewRow w g 83 (meterC true 0 (.slice none 0 0)) w') : MeetK w0 g 0 [] w' :=
  ⟨below_size hb h.below, ht, by rw [h.spot]; exact hb.size, _, [], h.row, World.ownsRow_nil _ _ _ _, rfl, fun j h1 => by simp at h1⟩
/-- What a Sum by such a Meter leaves as it was: rows that are older than the Meter's, or of another type; and bytes of the call's own. -/
structure LeftK (w w' : World) (g : Nat) : Prop where
  row : ∀ x t cs, x ≠ g → t ≠ 27 → RowAt w x t cs → RowAt w' x t cs
  size : w.heap.size ≤ w'.heap.size

theorem MeetK.put {w0 w w' : World} {g n x : Nat} {t : TypeId} {old cs : Array Value} {ls : List (List UInt8)} (h : MeetK w0 g n ls w) (hr : RowAt w x t old) (p : PutRow w x t cs w') (h1 : x ≠ g) (h2 : w0.heap.size ≤ x) (h3 : t ≠ 27) (h4 : t ≠ 5) : MeetK w0 g n ls w' := by
  obtain ⟨s, vs, k1, k2, k3, k4⟩ := h.rows
  refine ⟨p.below h.below h.below.size h2, h.tabs0, h.far, s, vs, k1.grown p.grown (by intro e; injection e with e; exact h1 e.symm), World.ownsRow.kept k2 p.grown (.inr fun e => own_apart k2 hr h3 e.symm), k3, fun j a b => ?_⟩
  exact World.ownsRow.kept (k4 j a b) p.grown (.inr fun e => own_apart (k4 j a b) hr h4 e.symm)

set_option maxHeartbeats 1000000 in
theorem Sum_keep (w0 w : World) (g n : Nat) (v : Value) (old ls : List (List UInt8)) (hk : MeetK w0 g n old w) (hn : n ≤ 1000000000) (ho : old.length ≤ 1000000) (hb : Bss w v ls) (hl : ls.flatten.length ≤ 1000000) (hm : ls.length ≤ 1000000) :
    Calls Tryd.prog 21 #[.pointer (some ⟨g, 0, none⟩), v] w fun e w' => e = .returned (keyV (digestB ls.flatten)) ∧ MeetK w0 g (n + 1) (old ++ [ls.flatten]) w' ∧ LeftK w w' g := by
  have HK := Lib.hid hk
  have HT := Lib.hid hk.tabs
  have HB := Lib.hid hb
  have HK0 : Hid (w0.heap.size ≤ w.heap.size) := hk.below.size
  have hgl : g < w.heap.size := by obtain ⟨s, vs, h1, _⟩ := hk.rows; exact h1.lt
  have HD : Hid (∀ x, Tabs x → ∀ u, Bs x u ls.flatten → Calls Tryd.prog 45 #[u] x (RetV x (.agg (keyC (digestB ls.flatten))))) := fun x hx u hu => digest_any x hx u ls.flatten hu hl
  obtain ⟨fin, hfin⟩ : ∃ fin, fin = digestB ls.flatten := ⟨_, rfl⟩
  have HFL : Hid (fin.length = 32) := by show _ = _; rw [hfin, digestB_length]
  rw [← hfin] at HD ⊢
  have HJ := Lib.hid (fun x u hu => Join_own x u ls hu (by omega) (by omega))
  obtain ⟨inp, hinp⟩ : ∃ inp, inp = ls.flatten := ⟨_, rfl⟩
  rw [← hinp] at HD HJ ⊢
  have HIN := Lib.hid hinp
  clear hk hb hfin hinp
  go_enter Tryd.func21, Tryd.ntmps21
  go_wp2_with ((with_reducible refine wpList_alloc_row (o := ⟨some 4, _, _, _, _, _⟩) rfl 33 rfl (keyC zeroKey) Tryd.zeroK ?_); intro g1 w1 n1)
  refine (HJ.out _ _ (HB.out.keep n1.below)).mono ?_
  rintro e w2 ⟨u, rfl, hu, b2⟩
  have HU := Lib.hid hu.bs
  have HOU := Lib.hid hu
  have hb1 : w.heap.size ≤ w1.heap.size := n1.below.size
  obtain ⟨UA, UC, rfl, _, _⟩ := hu.shape
  have R1 := Lib.hid (n1.row.kept b2)
  have B2 := Lib.hid (below_size n1.below b2)
  have hg1 : w.heap.size ≤ g1 := Nat.le_of_eq n1.spot.symm
  clear n1 b2 hu HB HJ
  go_wp2_with fail
  refine (HD.out _ (HT.out.below B2.out) _ HU.out).mono ?_
  rintro e w3 ⟨rfl, b3⟩
  have R13 := Lib.hid (R1.out.kept b3)
  have B3 := Lib.hid (below_size B2.out b3)
  have B23 := Lib.hid b3
  clear b3 R1 B2 HU HD
  go_wp2_with (first
    | ((with_reducible refine wpList_alloc_row (o := ⟨some 6, _, _, _, _, _⟩) rfl 33 rfl (keyC zeroKey) Tryd.zeroK ?_); intro g4 w4 n4)
    | ((with_reducible refine wpList_store_row (o := ⟨none, _, _, _, _, _⟩) rfl 33 (.tmp 6) (.tmp 10) rfl g4 33 _ (keyC fin) (by with_unfolding_all rfl) (by with_unfolding_all rfl) n4.row (keyC_same zeroKey_length HFL.out) (Tryd.sizeKey fin HFL.out) (keyC_one fin) ?_); intro w5 p5))
  have b5 := (laid_put n4 p5).1
  have B5 := Lib.hid (below_size B3.out b5)
  have R15 := Lib.hid (R13.out.kept b5)
  have R45 := Lib.hid p5.row
  have hg4 : w.heap.size ≤ g4 := by rw [n4.spot]; exact B3.out.size
  have HO5 := Lib.hid ((HOU.out.below B23.out).below b5)
  have K5 := Lib.hid (HK.out.kept B5.out)
  clear b5 n4 p5 B3 R13 HOU B23 HK
  obtain ⟨s, vs, k1, k2, k3, k4⟩ := K5.out.rows
  have hw0 : w0.heap.size ≤ w5.heap.size := K5.out.below.size
  have K1 := Lib.hid k1
  have K2 := Lib.hid k2
  have K3 := Lib.hid k3
  have K4 := Lib.hid k4
  have hvl : vs.length ≤ 1000000 := by omega
  clear k1 k2 k3 k4
  refine (note_keep _ g n w0.heap.size s UA inp.length UC vs hn K1.out K2.out hw0 hvl).mono ?_
  intro e w6 h
  obtain ⟨⟨xe, he⟩, s6, hr6, ho6, hg6⟩ := h
  subst he
  have h1s := own_apart K2.out R15.out (by decide)
  have h4s := own_apart K2.out R45.out (by decide)
  have R16 := Lib.hid (R15.out.two hg6 (by intro e; injection e with e; omega) h1s)
  have R46 := Lib.hid (R45.out.two hg6 (by intro e; injection e with e; omega) h4s)
  have M6 : Hid (MeetK w0 g (n + 1) (old ++ [inp]) w6) := by
    refine ⟨?_, K5.out.tabs0, K5.out.far, s6, vs ++ [.slice UA inp.length UC], hr6, by rw [List.length_append]; exact ho6, by simp [K3.out], ?_⟩
    · refine ⟨hg6.os.trans K5.out.below.os, hg6.tape.trans K5.out.below.tape, hg6.output.trans K5.out.below.output, Nat.le_trans K5.out.below.size hg6.size, fun i hi => (hg6.block i (Nat.lt_of_lt_of_le hi hw0) (fun e => ?_) (fun e => ?_)).trans (K5.out.below.block i hi)⟩
      · injection e with e
        have := K5.out.far
        omega
      · have := (World.ownsRow.lt K2.out i e.symm).1
        omega
    · intro j h1 h2
      rcases Nat.lt_or_ge j vs.length with hlt | hge
      · rw [List.getElem_append_left hlt, List.getElem_append_left (by rw [← K3.out]; exact hlt)]
        exact own_two (K4.out j hlt (by rw [← K3.out]; exact hlt)) K1.out K2.out hg6 (by decide) (by decide)
      · have hj : j = vs.length := by simp at h1; omega
        subst hj
        have e2 : (old ++ [inp])[vs.length]'h2 = inp := by simp [K3.out]
        rw [List.getElem_concat_length rfl, e2]
        exact own_two (ownB_low HO5.out (Nat.le_trans (Nat.le_trans HK0.out hb1) (Nat.le_refl _))) K1.out K2.out hg6 (by decide) (by decide)
  have L6 : Hid (LeftK w w6 g) := by
    refine ⟨fun x t cs hx ht hr => ?_, Nat.le_trans B5.out.size hg6.size⟩
    have hr5 := hr.kept B5.out
    exact hr5.two hg6 (by intro e; injection e with e; exact hx e) (own_apart K2.out hr5 ht)
  clear hr6 ho6 hg6 h1s h4s R15 R45 B5 K1 K2 K3 K4 K5 HO5
  go_wp2_with (first
    | (with_reducible refine wpList_load_row (o := ⟨some 14, _, _, _, _, _⟩) rfl 33 (.tmp 6) rfl g4 (by with_unfolding_all rfl) 33 (keyC fin) (0, 0) (.array 32 5) (by with_unfolding_all exact R46.out) Tryd.underlying33 rfl (Tryd.sizeKey fin HFL.out) ?_)
    | ((with_reducible refine wpList_store_row (o := ⟨none, _, _, _, _, _⟩) rfl 33 (.tmp 4) (.tmp 14) rfl g1 33 _ (keyC fin) (by with_unfolding_all rfl) (by with_unfolding_all rfl) R16.out (keyC_same zeroKey_length HFL.out) (Tryd.sizeKey fin HFL.out) (keyC_one fin) ?_); intro w9 p9))
  refine bodyPost_ret (results_cell_row rfl _ _ g1 33 (keyC fin) (0, 0) (.array 32 5) rfl p9.row Tryd.underlying33 rfl (Tryd.sizeKey fin HFL.out)) rfl ⟨rfl, ?_, ?_⟩
  · exact M6.out.put R16.out p9 (by omega) (by have := HK0.out; omega) (by decide) (by decide)
  · have q := p9.grown
    exact ⟨fun x t cs hx ht hr => (L6.out.row x t cs hx ht hr).grown q (by intro e; injection e with e; have := hr.lt; omega), Nat.le_trans L6.out.size q.size⟩

end Go.Proofs.YtngbcopilhibgaaDoor
