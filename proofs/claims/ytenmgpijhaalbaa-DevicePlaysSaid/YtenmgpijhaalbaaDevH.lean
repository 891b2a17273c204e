/-
  A device of the call's own ('DevOf'): what each call of it leaves; a list of what is to be done ('Ops'). Conditions: as each theorem names them.
-/
import Derived.Test.YtenmgpijhaalbaaDevG
import Derived.Test.YtenmgpijhaalbaaA
import Derived.Test.YtenmgpijhaalbaaSame
namespace Go.Proofs.Ytenmgpijhaalbaa
open Go.RowKit
set_option linter.unusedVariables false
set_option maxRecDepth 20000

/-- A device that the call itself has made (its blocks' numbers are at least w0's size); what was there is as it was. -/
def DevOf (w0 w : World) (g : Nat) (d : Dev) : Prop := Below w0.heap.size w0 w ∧ ∃ gn cn gs cs vp, DevIs w g gn cn gs cs vp d ∧ ∀ k, Foot g gn gs vp k → w0.heap.size ≤ k
section
variable {w0 w w' : World} {g : Nat} {d : Dev}
theorem DevOf.ok (h : DevOf w0 w g d) : d.Ok := by obtain ⟨_, _, _, _, _, _, h, _⟩ := h; exact h.ok
theorem DevOf.below (h : DevOf w0 w g d) : Below w0.heap.size w0 w := h.1
theorem DevOf.kept (h : DevOf w0 w g d) (hb : Below w.heap.size w w') : DevOf w0 w' g d := by
  obtain ⟨b, gn, cn, gs, cs, vp, h, hF⟩ := h
  exact ⟨below_size b hb, gn, cn, gs, cs, vp, h.kept hb, hF⟩
theorem DevOf.ret (b : Below w0.heap.size w0 w) {gn cn gs cs : Nat} {vp : Value} (hF : ∀ k, Foot g gn gs vp k → w0.heap.size ≤ k) {v : Value} {e : Ending} (h : DevRet w g gn cn gs cs vp d v e w') : e = .returned v ∧ DevOf w0 w' g d := by
  obtain ⟨vp', he, hd, ht, hv⟩ := h
  refine ⟨he, ht.below b b.size hF, gn, cn, gs, cs, vp', hd, fun k hk => ?_⟩
  rcases hk with hk | hk | hk | hk
  · exact hF k (.inl hk)
  · exact hF k (.inr (.inl hk))
  · exact hF k (.inr (.inr (.inl hk)))
  · rcases hv k hk with h | h
    · exact hF k (.inr (.inr (.inr h)))
    · exact Nat.le_trans b.size h
theorem devNew_of (w : World) (n : Nat) (h1 : 1 ≤ n) (h2 : n ≤ 600) :
    Calls Try.prog 9 #[.int .i64 (n : Int)] w fun e w' => ∃ g, e = .returned (.tuple #[.pointer (some ⟨g, 0, none⟩), .int .i64 0]) ∧ DevOf w w' g (Dev.new n) :=
  (devNew_any w n h1 h2).mono fun e w' ⟨g, gn, cn, gs, cs, vp, he, hd, hF, hb⟩ => ⟨g, he, hb, gn, cn, gs, cs, vp, hd, hF⟩
theorem devWrite_of (h : DevOf w0 w g d) (i : Int) (vb : Value) (b : List UInt8) (hb : Bs w vb b) (hp : d.pend.length ≤ 1000000) :
    Calls Try.prog 11 #[.pointer (some ⟨g, 0, none⟩), .int .i64 i, vb] w fun e w' => e = .returned (.int .i64 (d.writeE i b)) ∧ DevOf w0 w' g (d.write i b) := by
  obtain ⟨b0, gn, cn, gs, cs, vp, h, hF⟩ := h
  exact (devWrite_any w g gn cn gs cs vp d h i vb b hb hp).mono fun e w' hr => DevOf.ret b0 hF hr
theorem devSync_of (h : DevOf w0 w g d) : Calls Try.prog 13 #[.pointer (some ⟨g, 0, none⟩)] w fun e w' => e = .returned (.int .i64 d.syncE) ∧ DevOf w0 w' g d.sync := by
  obtain ⟨b0, gn, cn, gs, cs, vp, h, hF⟩ := h
  exact (devSync_any w g gn cn gs cs vp d h).mono fun e w' hr => DevOf.ret b0 hF hr
theorem devFuse_of (h : DevOf w0 w g d) (n : Int) (hn : -9223372036854775808 ≤ n ∧ n ≤ 9223372036854775807) : Calls Try.prog 17 #[.pointer (some ⟨g, 0, none⟩), .int .i64 n] w fun e w' => e = .returned (.tuple #[]) ∧ DevOf w0 w' g (d.set n) := by
  obtain ⟨b0, gn, cn, gs, cs, vp, h, hF⟩ := h
  exact (devFuse_any w g gn cn gs cs vp d h n hn).mono fun e w' hr => DevOf.ret b0 hF hr
theorem Bls.low {v : Value} {l : List Bool} (h : Bls w v l) (hl : 0 < l.length) : ∀ k, v.ownBlock = some k → k < w.heap.size := by
  obtain ⟨A, c, rfl, _, _, h3⟩ := h
  obtain ⟨b, off, rfl, hc⟩ := h3 hl
  intro k hk
  obtain rfl : b = k := by simpa [Value.ownBlock] using hk
  exact World.block_lt_of_cell? w _ (hc 0 hl)
theorem devCrash_of (h : DevOf w0 w g d) (vk : Value) (keep : List Bool) (hk : Bls w0 vk keep) (hp : d.pend.length ≤ 1000000) :
    Calls Try.prog 15 #[.pointer (some ⟨g, 0, none⟩), vk] w fun e w' => e = .returned (.tuple #[]) ∧ DevOf w0 w' g (d.crash keep) := by
  obtain ⟨b0, gn, cn, gs, cs, vp, h, hF⟩ := h
  exact (devCrash_any w g gn cn gs cs vp d h vk keep (hk.below b0) (fun hl k hk2 hf => by have := hk.low hl k hk2; have := hF k hf; omega) hp).mono fun e w' hr => DevOf.ret b0 hF hr
theorem devRead_of (h : DevOf w0 w g d) (i : Int) :
    Calls Try.prog 25 #[.pointer (some ⟨g, 0, none⟩), .int .i64 i] w fun e w' => ∃ v, e = .returned (.tuple #[v, .int .i64 (d.readE i)]) ∧ OwnB w' w.heap.size 5 v (d.readB i) ∧ Below w.heap.size w w' := by
  obtain ⟨b0, gn, cn, gs, cs, vp, h, hF⟩ := h
  exact devRead_any w g gn cn gs cs vp d h i
theorem devLen_of (h : DevOf w0 w g d) : Calls Try.prog 37 #[.pointer (some ⟨g, 0, none⟩)] w (RetV w (.int .i64 (d.now.length : Int))) := by
  obtain ⟨b0, gn, cn, gs, cs, vp, h, hF⟩ := h
  exact devLen_any w g gn cn gs cs vp d h
theorem devPending_of (h : DevOf w0 w g d) : Calls Try.prog 26 #[.pointer (some ⟨g, 0, none⟩)] w (RetV w (.int .i64 (d.pend.length : Int))) := by
  obtain ⟨b0, gn, cn, gs, cs, vp, h, hF⟩ := h
  exact devPending_any w g gn cn gs cs vp d h
theorem devDown_of (h : DevOf w0 w g d) : Calls Try.prog 27 #[.pointer (some ⟨g, 0, none⟩)] w (RetV w (.bool d.burnt)) := by
  obtain ⟨b0, gn, cn, gs, cs, vp, h, hF⟩ := h
  exact devDown_any w g gn cn gs cs vp d h
/-- Its copy is of a later time. -/
theorem devCopy_of (h : DevOf w0 w g d) (hp : d.pend.length ≤ 1000000) : Calls Try.prog 19 #[.pointer (some ⟨g, 0, none⟩)] w fun e w' => ∃ g', e = .returned (.pointer (some ⟨g', 0, none⟩)) ∧ DevOf w w' g' d := by
  obtain ⟨b0, gn, cn, gs, cs, vp, h, hF⟩ := h
  exact (devCopy_any w g gn cn gs cs vp d h hp).mono fun e w' ⟨g', gn', cn', gs', cs', vp', he, hd, hF, hb⟩ => ⟨g', he, hb, gn', cn', gs', cs', vp', hd, hF⟩
theorem DevOf.older (h : DevOf w0 w g d) {g' : Nat} {d' : Dev} (h' : DevOf w w' g' d') : DevOf w0 w' g d := h.kept h'.1
theorem DevOf.since {w1 : World} (h : DevOf w1 w g d) (hb : Below w0.heap.size w0 w1) : DevOf w0 w g d := by
  obtain ⟨b, gn, cn, gs, cs, vp, h, hF⟩ := h
  exact ⟨below_size hb b, gn, cn, gs, cs, vp, h, fun k hk => Nat.le_trans hb.size (hF k hk)⟩
end

/-- What is to be done. -/
structure OpD where
  do_ : Int
  i : Int
  b : List UInt8
  keep : List Bool
def opC (o : OpD) (vb vk : Value) : List Value := [.int .i64 o.do_, .int .i64 o.i, vb, vk]
structure OpAt (w : World) (b off : Nat) (o : OpD) (vb vk : Value) : Prop where
  at_ : w.rangeAt b off (opC o vb vk)
  bs : Bs w vb o.b
  bls : Bls w vk o.keep
  low : -9223372036854775808 ≤ o.i ∧ o.i ≤ 9223372036854775807
def Ops (w : World) (v : Value) (l : List OpD) : Prop :=
  ∃ A c, v = .slice A l.length c ∧ l.length ≤ c ∧ c ≤ maxLen ∧ (0 < l.length → ∃ b off, A = some ⟨b, off, none⟩ ∧ ∀ j (hj : j < l.length), ∃ vb vk, OpAt w b (off + j * 4) l[j] vb vk)
theorem OpAt.below {w w' : World} {b off : Nat} {o : OpD} {vb vk : Value} (h : OpAt w b off o vb vk) (hb : Below w.heap.size w w') : OpAt w' b off o vb vk where
  at_ j v hj := by
    have h1 := h.at_ j v hj
    rw [← h1]
    exact hb.cell (World.block_lt_of_cell? w _ h1)
  bs := h.bs.below hb
  bls := h.bls.below hb
  low := h.low
theorem Ops.at_ {w : World} {A : Option Addr} {n c : Nat} {l : List OpD} (h : Ops w (.slice A n c) l) (j : Nat) (hj : j < l.length) : ∃ b off, A = some ⟨b, off, none⟩ ∧ ∃ vb vk, OpAt w b (off + j * 4) l[j] vb vk := by
  obtain ⟨A', c', hv, _, _, h3⟩ := h
  injection hv with e1 _ _
  obtain ⟨b, off, hA, hc⟩ := h3 (by omega)
  exact ⟨b, off, e1.trans hA, hc j hj⟩
end Go.Proofs.Ytenmgpijhaalbaa
