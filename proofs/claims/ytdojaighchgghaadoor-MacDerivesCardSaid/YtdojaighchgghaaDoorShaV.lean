/-
  Contracts of a Meter that keeps: note, and Sum. Conditions: as each theorem names them.
-/
import Derived.Test.YtdojaighchgghaaDoorShaI
import Derived.Test.YtdojaighchgghaaDoorLocks
import Derived.Test.YtdojaighchgghaaDoorRound
import Derived.Defers
import Derived.Deep.AppendLies
namespace Go.Proofs.YtdojaighchgghaaDoor
open Go.RowKit
set_option linter.unusedVariables false
set_option maxRecDepth 20000

theorem Tryd.infoS : (Tryd.prog.info? 27).map (fun i => (i.zero, i.size, i.bytes)) = some (some (.slice none 0 0), 1, 24) := by kernel_rfl

theorem Add_any (w : World) (g n : Nat) (hn : n ≤ 1000000000) (hc : w.cell? ⟨g, 1, none⟩ = some (.int .i64 (n : Int))) (hz : w.frozen? ⟨g, 1, none⟩ = false) :
    Calls Tryd.prog 65 #[.pointer (some ⟨g, 1, none⟩), .int .i64 1] w fun e w' => (∃ x, e = .returned x) ∧ w' = w.setCell ⟨g, 1, none⟩ (.int .i64 ((n + 1 : Nat) : Int)) := by
  have hadd := run_call_add (P := Tryd.prog) Tryd.func72 (by kernel_rfl) (by kernel_rfl) (by kernel_rfl) .i64 (by kernel_rfl) (y := 1) (s := ((n + 1 : Nat) : Int)) hc hz (by simp [go_sem]; rw [IntWalk.i64_in _ (by omega)])
  go_enter Tryd.func65, Tryd.ntmps65
  go_wp2
  go_ret
  exact ⟨⟨_, rfl⟩, rfl⟩

/-- The row of the lists that a Meter keeps is not the Meter's own. -/
theorem own_apart {w : World} {base n g : Nat} {e t : TypeId} {s : Value} {xs : List Value} {cs : Array Value} (h : w.ownsRow base e 1 s n xs) (hr : RowAt w g t cs) (ht : t ≠ e) : some g ≠ s.ownBlock := by
  rcases h.2 with ⟨rfl, _⟩ | ⟨k, cap, cur, rfl, _, hk, _⟩
  · simp [Value.ownBlock]
  · intro e2
    have : g = k := by simpa [Value.ownBlock] using e2
    subst this
    rw [hr] at hk
    injection hk with hk
    injection hk with h1 h2
    exact ht h2

theorem put_grown (w : World) (g i : Nat) (u : Value) : w.grownBy (w.setCell ⟨g, i, none⟩ u) (some g) :=
  ⟨rfl, rfl, rfl, by simp, fun k _ hne => heap_setCell_other w _ k _ (fun h => hne (by rw [h]))⟩
theorem own_put_other {w : World} {base n g : Nat} {e t : TypeId} {s : Value} {xs : List Value} {cs : Array Value} (h : w.ownsRow base e 1 s n xs) (hr : RowAt w g t cs) (ht : t ≠ e) (i : Nat) (u : Value) : (w.setCell ⟨g, i, none⟩ u).ownsRow base e 1 s n xs :=
  World.ownsRow.kept h (put_grown w g i u) (.inr (fun e2 => own_apart h hr ht e2.symm))
theorem grown_of_alloc (w : World) (o : Obj) (a : Option Nat) : w.grownBy (w.alloc o) a := ⟨rfl, rfl, rfl, by simp, fun k hk _ => Below.heap_alloc w o k hk⟩
/-- Behind a call that writes at two rows at most: all else. -/
structure GrownTwo (w w' : World) (a b : Option Nat) : Prop where
  os : w'.os = w.os
  tape : w'.tape = w.tape
  output : w'.output = w.output
  size : w.heap.size ≤ w'.heap.size
  block : ∀ k, k < w.heap.size → some k ≠ a → some k ≠ b → w'.heap[k]? = w.heap[k]?
theorem GrownTwo.refl (w : World) (a b : Option Nat) : GrownTwo w w a b := ⟨rfl, rfl, rfl, Nat.le_refl _, fun _ _ _ _ => rfl⟩
theorem GrownTwo.fst {w w' w'' : World} {a b : Option Nat} (h : GrownTwo w w' a b) (k : w'.grownBy w'' a) : GrownTwo w w'' a b :=
  ⟨k.os.trans h.os, k.tape.trans h.tape, k.output.trans h.output, Nat.le_trans h.size k.size, fun i hi h1 h2 => (k.block i (Nat.lt_of_lt_of_le hi h.size) h1).trans (h.block i hi h1 h2)⟩
theorem GrownTwo.snd {w w' w'' : World} {a b : Option Nat} (h : GrownTwo w w' a b) (k : w'.grownBy w'' b) : GrownTwo w w'' a b :=
  ⟨k.os.trans h.os, k.tape.trans h.tape, k.output.trans h.output, Nat.le_trans h.size k.size, fun i hi h1 h2 => (k.block i (Nat.lt_of_lt_of_le hi h.size) h2).trans (h.block i hi h1 h2)⟩

set_option maxHeartbeats 1000000 in
theorem note_keep (w : World) (g n base : Nat) (s : Value) (VA : Option Addr) (vn vc : Nat) (vs : List Value) (hn : n ≤ 1000000000) (hr : RowAt w g 83 (meterC true n s)) (ho : w.ownsRow base 27 1 s vs.length vs) (hb : base ≤ w.heap.size) (hm : vs.length ≤ 1000000) :
    Calls Tryd.prog 46 #[.pointer (some ⟨g, 0, none⟩), .slice VA vn vc] w fun e w' => (∃ x, e = .returned x) ∧ ∃ s', RowAt w' g 83 (meterC true (n + 1) s') ∧ w'.ownsRow base 27 1 s' (vs.length + 1) (vs ++ [.slice VA vn vc]) ∧ GrownTwo w w' (some g) s.ownBlock := by
  obtain ⟨i0, hi, hz0, hz1, hz2⟩ := info_parts Tryd.infoS
  have c0 : w.cell? ⟨g, 0, none⟩ = some (.bool true) := hr.cell 0
  have c2 : w.cell? ⟨g, 2, none⟩ = some (.int .i32 0) := hr.cell 2
  have z2 : w.frozen? ⟨g, 2, none⟩ = false := hr.frozen 2
  have hgl := hr.lt
  have R1 : Hid (RowAt (w.setCell ⟨g, 2, none⟩ (.int .i32 1)) g 83 #[.bool true, .int .i64 (n : Int), .int .i32 1, .int .u32 0, s]) := hr.put 2 (.int .i32 1)
  have O1 := Lib.hid (own_put_other ho hr (by decide) 2 (.int .i32 1))
  have G1 := Lib.hid ((GrownTwo.refl w (some g) s.ownBlock).fst (put_grown w g 2 (.int .i32 1)))
  have HZ0 := Lib.hid hz0
  have HZ1 := Lib.hid hz1
  have HZ2 := Lib.hid hz2
  have HI := Lib.hid hi
  clear hr ho hz0 hz1 hz2 hi
  go_enter_defers Tryd.func46, Tryd.ntmps46
  go_wp2_with fail
  refine (Go.MuLone.lock_free muLib ⟨g, 2, none⟩ _ c2 z2).mono ?_
  intro e w1 h
  obtain ⟨he, hw⟩ := h
  subst he
  rw [← hw] at R1 O1 G1
  clear hw c0 c2 z2
  have c4 : w1.cell? ⟨g, 4, none⟩ = some s := R1.out.cell 4
  have HNW : Hid (∀ (j : Nat) u, ([.slice VA vn vc] : List Value)[j]? = some u → (w1.alloc (.cells #[.slice VA vn vc] 27)).cell? ((⟨w1.heap.size, 0, none⟩ : Addr).add j) = some u) := by
    intro j u hj
    rcases j with _ | j
    · have h0 := (RowAt.new w1 27 #[.slice VA vn vc]).cell 0
      simp at hj
      subst hj
      exact h0
    · simp at hj
  have HON : Hid (∀ u ∈ ([.slice VA vn vc] : List Value), u.oneCell' = true) := by
    intro u hu
    simp at hu
    rw [hu]
    rfl
  go_wp2_with (at_builtin; go_loud (refine wpList_append_own _ rfl (.tmp 21) (.tmp 23) 38 rfl base 27 i0 (.slice none 0 0) 1 24 Tryd.underlying38 HI.out HZ0.out HZ1.out HZ2.out rfl (by decide) s vs.length vs rfl (O1.out.alloc _) ⟨w1.heap.size, 0, none⟩ 1 1 [.slice VA vn vc] rfl rfl HNW.out HON.out (by unfold maxLen; omega) (by omega) (by have := G1.out.size; simp; omega) ?_); intro v2 w2 own2 hg2 hnil2; clear hnil2; have R2 := Lib.hid ((R1.out.alloc (.cells #[.slice VA vn vc] 27)).grown hg2 (own_apart (O1.out.alloc (.cells #[.slice VA vn vc] 27)) (R1.out.alloc (.cells #[.slice VA vn vc] 27)) (by decide))); have c5 : w2.cell? ⟨g, 4, none⟩ = some s := R2.out.cell 4; have z5 : w2.frozen? ⟨g, 4, none⟩ = false := R2.out.frozen 4; have O2 := Lib.hid own2; obtain ⟨k2, cap2, hk1, hk2, hk3⟩ := own2.form (by omega); subst hk1; clear own2)
  have R3 := Lib.hid (R2.out.put 4 (.slice (some ⟨k2, 0, none⟩) (vs.length + 1) cap2))
  have O3 := Lib.hid (own_put_other O2.out R2.out (by decide) 4 (.slice (some ⟨k2, 0, none⟩) (vs.length + 1) cap2))
  have G3 := Lib.hid (((G1.out.fst (grown_of_alloc w1 (.cells #[.slice VA vn vc] 27) (some g))).snd hg2).fst (put_grown w2 g 4 (.slice (some ⟨k2, 0, none⟩) (vs.length + 1) cap2)))
  clear R1 R2 O1 O2 G1 hg2 c4 c5 z5 HNW HON hk2 hk3
  generalize w2.setCell ⟨g, 4, none⟩ (.slice (some ⟨k2, 0, none⟩) (vs.length + 1) cap2) = w3 at *
  refine (Add_any w3 g n hn (R3.out.cell 1) (R3.out.frozen 1)).mono ?_
  intro e w4 h
  obtain ⟨⟨x, he⟩, hw⟩ := h
  subst he
  have R4 := Lib.hid (R3.out.put 1 (.int .i64 ((n + 1 : Nat) : Int)))
  have O4 := Lib.hid (own_put_other O3.out R3.out (by decide) 1 (.int .i64 ((n + 1 : Nat) : Int)))
  have G4 := Lib.hid (G3.out.fst (put_grown w3 g 1 (.int .i64 ((n + 1 : Nat) : Int))))
  rw [← hw] at R4 O4 G4
  clear hw R3 O3 G3
  go_wp2_with fail
  refine leaves_cons (f := 49) (args := #[.pointer (some ⟨g, 2, none⟩)]) (by simp) (by simp [go_sem]) ?_
  refine (Go.MuLone.unlock_deferred muLib ⟨g, 2, none⟩ .returning _ (R4.out.cell 2) (R4.out.frozen 2)).mono ?_
  intro e u' w5 h
  obtain ⟨h1, h2, h3⟩ := h
  subst h1 h2 h3
  refine ⟨_, results_none rfl _ _ _, ⟨_, rfl⟩, _, R4.out.put 2 (.int .i32 0), own_put_other O4.out R4.out (by decide) 2 (.int .i32 0), G4.out.fst (put_grown _ g 2 (.int .i32 0))⟩
end Go.Proofs.YtdojaighchgghaaDoor
