/-
  Texts that belong together, merged: Iter, MacH, MacI. Conditions: as each theorem names them.
-/
import Derived.RangeFuncNested
import Derived.Test.YtjlhmcnajgafgaaDoorQDrwAH
import Derived.Test.YtjlhmcnajgafgaaDoorQDrwAD
import Derived.Test.YtjlhmcnajgafgaaDoorQDrwAC
import Derived.Test.YtjlhmcnajgafgaaDoorQDrwAF
section
namespace Go.Proofs.YtjlhmcnajgafgaaDoor
open Go.RowKit
set_option linter.unusedVariables false

/-- The iterator's contract: J stands behind each round; it may say nothing that R turns. -/
def SeqR {α : Type} (F : Fence) (n : Nat) (P : Program) (g : Nat) (lb : Array Value) (encs : α → Array Value) (R Kp : World → World → Prop) (S Sp : List α → Prop) (N : Nat) (w : World) : Prop :=
  ∀ (l : Nat) (J Jx : List α → World → Prop) (W : World), Below w.heap.size w W → AbidesFrom W.heap.size J → AbidesFrom W.heap.size Jx →
    (∀ s A B, J s A → R A B → J s B) → (∀ s A B, Jx s A → R A B → Jx s B) →
    (∀ pre x W1, J pre W1 → pre.length < N → YieldAt F (n - 1) P l (encs x) W1 fun e W' =>
      (e = .returned (.bool true) ∧ J (pre ++ [x]) W' ∧ Kp W1 W') ∨ (e = .returned (.bool false) ∧ Jx (pre ++ [x]) W')) →
    J [] W →
    CallsIn F n P g (#[.func (.yield l) #[] #[]] ++ lb) W fun e W' => (∃ v, e = .returned v) ∧ ((∃ xs, S xs ∧ J xs W') ∨ (∃ pre, Sp pre ∧ Jx pre W'))

variable {F : Fence} {n : Nat} {P : Program}

theorem wpIn_rangeFunc_R {α : Type} {g : Operand} {ps : Array Tmp} {assign body : Code} {Q : Exit → Act → World → Prop} {a : Act} {w : World}
    (hro : F.round = none) (h1 : 1 ≤ n) {gf : Nat} {lb : Array Value} (hg : a.eval g = .func (.func gf) #[] lb) (hFg : F.fn gf) (eg : ∀ args w, (callFunc gf args).run P w = .ok (.enter gf args) w)
    {encs : α → Array Value} {R Kp : World → World → Prop} {S Sp : List α → Prop} {N : Nat} {w0 : World} (hseq : SeqR F (n - 1) P gf lb encs R Kp S Sp N w0)
    (hRk : ∀ A B, R A B → ∀ k o, w.heap.size ≤ k → A.heap[k]? = some o → o.isCells = false → B.heap[k]? = some o)
    (hKt : ∀ {A B C : World}, Kp A B → Kp B C → Kp A C) (hKb : ∀ (W : World) (l : Nat) (o o' : Obj), w.heap.size ≤ l → W.heap[l]? = some o → o.isCells = false → o.isWalk = false → Kp W (W.putObj l o')) (hb0 : Below w0.heap.size w0 w) (hps : ∀ x, (encs x).size = ps.size)
    (I : List α → World → Prop) (Ix : Code → List α → World → Prop) (hI : OwnFrom w.heap.size I) (hIx : ∀ c, OwnFrom w.heap.size (Ix c)) (hIR : ∀ s A B, I s A → R A B → I s B) (hIxR : ∀ c s A B, Ix c s A → R A B → Ix c s B) (h0 : I [] w)
    (Ax : α → Act → World → Prop) (hAx : ∀ x a', OwnFrom w.heap.size (fun (_ : Unit) W => Ax x a' W))
    (hassign : ∀ (l : Nat) (pre : List α) (x : α) (W : World) (K : Act → World → Prop), I pre W → (∀ a' W', KeepsFrom w.heap.size W W' → Kp W W' → I pre W' → Ax x a' W' → K a' W') →
      assign.wpIn (F.inRound l) (n - 1 - 1) P (Exit.then K (fun _ _ _ => False)) { tmps := (ps.zip (encs x)).foldl (fun t (p, v) => t.setIfInBounds p v) a.tmps, defers := [] } W)
    (hbody : ∀ (l : Nat) (pre : List α) (x : α) (a' : Act) (W : World), w.heap.size ≤ l → (∃ r, W.heap[l]? = some (.loop r)) → I pre W → Ax x a' W → pre.length < N → body.wpIn (F.inRound l) (n - 1 - 1) P (ownPostG w.heap.size Kp I Ix (pre ++ [x]) W) a' W)
    (hdone : ∀ (D : Nat) (xs : List α) (W : World), w.heap.size ≤ D → S xs → I xs W → W.heap[D]? = some (.deferred (some [])) → Q .normal { a with defers := { target := .collected D, args := #[] } :: a.defers } W)
    (hstop : ∀ (D : Nat) (c : Code) (pre : List α) (W : World), w.heap.size ≤ D → Sp pre → Ix c pre W → W.heap[D]? = some (.deferred (some [])) → c.wpIn F n P Q { a with defers := { target := .collected D, args := #[] } :: a.defers } W) :
    (Code.rangeFunc g ps assign body).wpIn F n P Q a w := by
  refine wpIn_rangeFunc fun fn hfn => ?_
  rw [hro]
  obtain ⟨B, hB⟩ : ∃ B, B = w.heap.size := ⟨_, rfl⟩
  obtain ⟨rec, hrec⟩ : ∃ rec : LoopState → Option Code → Loop, rec = fun st pe => { state := st, pending := pe, fn, tmps := a.tmps, params := ps, assign, body, defers := B } := ⟨_, rfl⟩
  obtain ⟨W1, hW1⟩ : ∃ W1, W1 = (w.alloc (.deferred (some []))).alloc (.loop (rec .ready none)) := ⟨_, rfl⟩
  have hD0 : W1.heap[B]? = some (.deferred (some [])) := by
    rw [hW1, hB]; exact (Below.heap_alloc _ _ _ (by simp)).trans (World.alloc_heap_new w _)
  have hL0 : W1.heap[B + 1]? = some (.loop (rec .ready none)) := by
    have := World.alloc_heap_new (w.alloc (.deferred (some []))) (.loop (rec .ready none)); rwa [World.size_alloc, ← hB, ← hW1] at this
  have hb1 : Below w.heap.size w W1 := by rw [hW1]; exact ((Below.refl _ w).alloc (Nat.le_refl _) _).alloc (by simp) _
  have hI0 : I [] W1 := by rw [hW1]; exact hI.alloc _ (hI.alloc _ h0)
  refine ⟨B + 1, [{ target := .collected B, args := #[] }], W1, { target := .fn (.func gf) lb, args := #[.func (.yield (B + 1)) #[] #[]] }, W1, gf, #[.func (.yield (B + 1)) #[] #[]] ++ lb, W1,
    by rw [hW1, hrec, hB]; exact run_enterLoop_outer _ _ _ _ _, by simp only [resolve, hg]; simp [go_sem], by intro f' hf'; simp [Target.leads] at hf'; subst hf'; exact hFg, by simp [invoke, go_sem, eg], fun _ => h1, ?_⟩
  have hWB : B + 2 ≤ W1.heap.size := by rw [hW1]; simp only [World.size_alloc]; omega
  clear hW1
  have hBle : w0.heap.size ≤ B := by rw [hB]; exact hb0.size
  have hsz : w.heap.size = B := hB.symm
  rw [hsz] at hI hRk hb1
  simp only [hsz] at hIx hKb hassign hbody hdone hstop hAx
  -- what the loop keeps of its own: its record in a state, and what it has deferred
  obtain ⟨At, hAt⟩ : ∃ At : LoopState → Option Code → World → Prop, At = fun st pe W => W.heap[B + 1]? = some (.loop (rec st pe)) ∧ W.heap[B]? = some (.deferred (some [])) := ⟨_, rfl⟩
  have keep : ∀ {st pe X Y} {row : Option Nat}, At st pe X → X.grownBy Y row → (∀ r, row = some r → W1.heap.size ≤ r ∧ ∃ o : Obj, X.heap[r]? = some o ∧ o.isWalk = true) → At st pe Y := by
    intro st pe X Y row hs hgr hr
    rw [hAt] at hs ⊢
    have far : ∀ k, k ≤ B + 1 → k < X.heap.size → Y.heap[k]? = X.heap[k]? := fun k hk hx => hgr.block k hx fun e => by have := (hr k e.symm).1; omega
    exact ⟨(far _ (Nat.le_refl _) (Array.getElem?_eq_some_iff.1 hs.1).1).trans hs.1, (far _ (Nat.le_succ _) (Array.getElem?_eq_some_iff.1 hs.2).1).trans hs.2⟩
  have keepR : ∀ {st pe X Y}, At st pe X → R X Y → At st pe Y := by
    intro st pe X Y hs hr
    rw [hAt] at hs ⊢
    exact ⟨hRk X Y hr _ _ (Nat.le_succ _) hs.1 rfl, hRk X Y hr _ _ (Nat.le_refl _) hs.2 rfl⟩
  have put : ∀ {st pe X} (st' : LoopState) (pe' : Option Code), At st pe X → At st' pe' (X.putObj (B + 1) (.loop (rec st' pe'))) := by
    intro st pe X st' pe' hs
    rw [hAt] at hs ⊢
    exact ⟨World.putObj_heap_same (Array.getElem?_eq_some_iff.1 hs.1).1, (World.putObj_heap_other (by omega)).trans hs.2⟩
  have keepF : ∀ {st pe X Y}, At st pe X → KeepsFrom B X Y → At st pe Y := by
    intro st pe X Y hs hk
    rw [hAt] at hs ⊢
    exact ⟨hk.same _ _ (Nat.le_succ _) hs.1 rfl, hk.same _ _ (Nat.le_refl _) hs.2 rfl⟩
  have loopOf : ∀ {st pe X}, At st pe X → X.heap[B + 1]? = some (.loop (rec st pe)) := fun hs => by rw [hAt] at hs; exact hs.1
  have defOf : ∀ {st pe X}, At st pe X → X.heap[B]? = some (.deferred (some [])) := fun hs => by rw [hAt] at hs; exact hs.2
  have at0 : At .ready none W1 := by rw [hAt]; exact ⟨hL0, hD0⟩
  have cells : ∀ {X Y : World} {row : Option Nat}, (∀ r, row = some r → W1.heap.size ≤ r ∧ ∃ o : Obj, X.heap[r]? = some o ∧ o.isWalk = true) → (∀ r, row = some r → B ≤ r ∧ ∃ o : Obj, X.heap[r]? = some o ∧ o.isCells = false) :=
    fun hr r e => by obtain ⟨hb, o, ho, hw⟩ := hr r e; exact ⟨by omega, o, ho, Obj.not_cells_of_walk hw⟩
  have hb01 : Below w0.heap.size w0 W1 := hb0.trans (hb1.mono hBle)
  clear hAt hL0 hD0
  refine (hseq (B + 1) (fun pre W => I pre W ∧ At .ready none W) (fun pre W => ∃ c, Ix c pre W ∧ At .done (some c) W) W1 hb01
    (fun s X Y row hs hgr hr => ⟨hI s X Y row hs.1 hgr (cells (Y := Y) hr), keep hs.2 hgr hr⟩)
    (fun s X Y row ⟨c, hs⟩ hgr hr => ⟨c, hIx c s X Y row hs.1 hgr (cells (Y := Y) hr), keep hs.2 hgr hr⟩)
    (fun s X Y hs hr => ⟨hIR s X Y hs.1 hr, keepR hs.2 hr⟩) (fun s X Y ⟨c, hs⟩ hr => ⟨c, hIxR c s X Y hs.1 hr, keepR hs.2 hr⟩) ?_ ⟨hI0, at0⟩).mono ?_
  · rintro pre x X ⟨hi, hat⟩ hlen
    have hy := run_yield (P := P) (args := encs x) (loopOf hat) (by rw [hrec]; exact hps x)
    rw [hrec] at hy
    refine ⟨fn, _, assign, body, hy, roundIn_of_wpIn hfn (hassign _ pre x X _ hi fun a' X2 hkf hkp hi2 hax => ?_)⟩
    have hat2 := keepF hat hkf
    refine ⟨_, run_beginRound (loopOf hat2) (by rw [hrec]), ?_⟩
    have hat3 := put .busy none hat2
    have hkb := hKb X2 (B + 1) _ (.loop (rec .busy none)) (Nat.le_succ _) (loopOf hat2) rfl rfl
    have hi3 := hI.putObj (.loop (rec .busy none)) hi2 (Nat.le_succ _) (loopOf hat2) rfl
    have hax3 := (hAx x a').putObj (s := ()) (.loop (rec .busy none)) hax (Nat.le_succ _) (loopOf hat2) rfl
    have hB3 := hbody (B + 1) pre x a' (X2.putObj (B + 1) (.loop (rec .busy none))) (Nat.le_succ _) ⟨_, loopOf hat3⟩ hi3 hax3 hlen
    have ends : ∀ (jump : Option Code) (Y : World), At .busy none Y → (Instr.endRound (B + 1) jump).run P Y = .ok (.bool jump.isNone) (Y.putObj (B + 1) (.loop (rec (if jump.isNone then .ready else .done) jump))) := fun jump Y hY => by
      have := run_endRound (P := P) jump (loopOf hY)
      rw [hrec] at this ⊢
      exact this
    rw [show ({ rec LoopState.ready none with state := LoopState.busy } : Loop) = rec .busy none by rw [hrec]]
    refine wpIn_mono hB3 ?_
    rintro e a3 Y hp
    have left : ∀ c : Code, KeepsFrom B (X2.putObj (B + 1) (.loop (rec .busy none))) Y → Ix c (pre ++ [x]) Y →
        ∃ W', (Instr.endRound (B + 1) (some c)).run P Y = .ok (.bool false) W' ∧ ∃ c', Ix c' (pre ++ [x]) W' ∧ At .done (some c') W' := fun c hk hx => by
      have hY := keepF hat3 hk
      exact ⟨_, ends (some c) Y hY, c, (hIx c).putObj _ hx (Nat.le_succ _) (loopOf hY) rfl, put .done (some c) hY⟩
    cases e with
    | normal =>
      obtain ⟨hk3, hkp3, hi4⟩ := hp
      have hY := keepF hat3 hk3
      exact ⟨_, _, ends none Y hY, .inl ⟨rfl, ⟨hI.putObj _ hi4 (Nat.le_succ _) (loopOf hY) rfl, put .ready none hY⟩, hKt hkp (hKt (hKt hkb hkp3) (hKb Y (B + 1) _ _ (Nat.le_succ _) (loopOf hY) rfl rfl))⟩⟩
    | ret =>
      obtain ⟨_, h1, h3⟩ := left .ret hp.1 hp.2
      exact ⟨_, _, h1, .inr ⟨rfl, h3⟩⟩
    | exit id =>
      obtain ⟨_, h1, h3⟩ := left (.exit id) hp.1 hp.2
      exact ⟨_, _, h1, .inr ⟨rfl, h3⟩⟩
    | goto t =>
      obtain ⟨_, h1, h3⟩ := left (.goto t) hp.1 hp.2
      exact ⟨_, _, h1, .inr ⟨rfl, h3⟩⟩
    | panic ch => exact hp.elim
    | outgrown => exact hp.elim
  · rintro e W2 ⟨⟨v, rfl⟩, (⟨xs, hS, hi, hat⟩ | ⟨pre, hSp, c, hi, hat⟩)⟩
    · exact ⟨none, _, by have := run_endLoop (P := P) (loopOf hat) (by rw [hrec]; simp); rw [hrec] at this; exact this, hdone _ xs _ (Nat.le_refl _) hS (hI.putObj _ hi (Nat.le_succ _) (loopOf hat) rfl) ((World.putObj_heap_other (by omega)).trans (defOf hat))⟩
    · exact ⟨some c, _, by have := run_endLoop (P := P) (loopOf hat) (by rw [hrec]; simp); rw [hrec] at this; exact this, hstop _ c pre _ (Nat.le_refl _) hSp ((hIx c).putObj _ hi (Nat.le_succ _) (loopOf hat) rfl) ((World.putObj_heap_other (by omega)).trans (defOf hat))⟩
end Go.Proofs.YtjlhmcnajgafgaaDoor
end
section
namespace Go.Proofs.YtjlhmcnajgafgaaDoor
open Go.RowKit Go.Shelf
attribute [local go_sem] Oper.semAt_some
set_option linter.unusedVariables false
set_option maxRecDepth 20000

/-- What may come of a Meter at g that keeps nothing: it has counted, but no more than M. -/
def MeterStep (g M : Nat) (A B : World) : Prop :=
  A.grownBy B (some g) ∧ (∃ n, RowAt A g 65 (meterC false n (.slice none 0 0))) ∧ ∃ n, n ≤ M ∧ RowAt B g 65 (meterC false n (.slice none 0 0))
theorem MeterStep.keeps {g M : Nat} {A B : World} (h : MeterStep g M A B) (k : Nat) (o : Obj) (hk : A.heap[k]? = some o) (ho : o.isCells = false) : B.heap[k]? = some o := by
  obtain ⟨hg, ⟨n, hn⟩, _⟩ := h
  refine (hg.block k (Array.getElem?_eq_some_iff.1 hk).1 fun e => ?_).trans hk
  injection e with e
  subst e
  rw [show A.heap[k]? = _ from hn] at hk
  cases hk
  simp [Obj.isCells] at ho

/-- A row of cells, but none of bytes. -/
def rowKept : Obj → Bool
  | .cells _ t _ => t != 5
  | _ => false
/-- What a round's body must keep: all that lay when the caller began, and each row but those that X names. -/
def BodyKeeps (x : World) (X : Nat → Prop) (W W' : World) : Prop := Below x.heap.size W W' ∧ ∀ k o, W.heap[k]? = some o → rowKept o = true → ¬ X k → W'.heap[k]? = some o
theorem bodyKeeps_t {x : World} {X : Nat → Prop} {A B C : World} (h : BodyKeeps x X A B) (k : BodyKeeps x X B C) : BodyKeeps x X A C :=
  ⟨h.1.trans k.1, fun i o h1 h2 h3 => k.2 i o (h.2 i o h1 h2 h3) h2 h3⟩
theorem bodyKeeps_b {x w : World} {X : Nat → Prop} (hx : x.heap.size ≤ w.heap.size) (W : World) (l : Nat) (o o' : Obj) (hl : w.heap.size ≤ l) (h : W.heap[l]? = some o) (h2 : o.isCells = false) (h3 : o.isWalk = false) : BodyKeeps x X W (W.putObj l o') := by
  refine ⟨belowK_b hx W l o o' hl h h2 h3, fun k o2 hk hc _ => ?_⟩
  refine (World.putObj_heap_other fun e => ?_).trans hk
  subst e
  rw [h] at hk
  cases hk
  cases o <;> simp [rowKept, Obj.isCells] at hc h2
theorem BodyKeeps.of_below {x W W' : World} {X : Nat → Prop} (hx : x.heap.size ≤ W.heap.size) (h : Below W.heap.size W W') : BodyKeeps x X W W' :=
  ⟨h.mono hx, fun k o hk _ _ => (h.block k (Array.getElem?_eq_some_iff.1 hk).1).trans hk⟩

theorem Run.beneath {w0 w x y : World} {g n : Nat} (h : Run w0 w g n x) (hb : Below w.heap.size x y) : Run w0 w g n y :=
  ⟨h.below.trans (hb.mono h.old), h.row.below hb h.glt, h.tabs0, h.far, h.old, h.row0, ⟨hb.os.trans h.grown.os, hb.tape.trans h.grown.tape, hb.output.trans h.grown.output, Nat.le_trans h.grown.size hb.size, fun k hk h1 => (hb.block k hk).trans (h.grown.block k hk h1)⟩⟩
theorem Run.step {w0 w x y : World} {g n M : Nat} (h : Run w0 w g n x) (hs : MeterStep g M x y) : ∃ n', n' ≤ M ∧ Run w0 w g n' y := by
  obtain ⟨hg, _, n', hn, hr⟩ := hs
  exact ⟨n', hn, h.below.grown hg h.below.size (fun k e => by injection e with e; subst e; exact h.far), hr, h.tabs0, h.far, h.old, h.row0, grown_trans h.grown hg⟩
theorem Run.meterStep {w0 w x : World} {g n M : Nat} (h : Run w0 w g n x) (hn : n ≤ M) : MeterStep g M w x := ⟨h.grown, h.row0, n, hn, h.row⟩

/-- What the function has captured: how many, a Meter, a key, an info. -/
structure XEnv (w0 x W : World) (g m gn gm gk gi : Nat) (vi : Value) (key : List UInt8) (N : Nat) : Prop where
  run : ∃ n, n ≤ m ∧ Run w0 x g n W
  count : Boxed W gn 3 (.int .i64 (N : Int))
  meter : Boxed W gm 27 (.pointer (some ⟨g, 0, none⟩))
  key : RowAt W gk 23 (keyC key)
  info : Boxed W gi 68 vi
section
variable {w0 x W W' : World} {g m gn gm gk gi : Nat} {vi : Value} {key : List UInt8} {N : Nat}
theorem XEnv.apart (h : XEnv w0 x W g m gn gm gk gi vi key N) : gn ≠ g ∧ gm ≠ g ∧ gk ≠ g ∧ gi ≠ g := by
  obtain ⟨n, _, hr⟩ := h.run
  have row : W.heap[g]? = some (.cells (meterC false n (.slice none 0 0)) 65 (0, 0)) := hr.row
  refine ⟨fun e => ?_, fun e => ?_, fun e => ?_, fun e => ?_⟩
  · have c : W.heap[gn]? = _ := h.count
    rw [e, row] at c
    injection c with c; injection c with _ c _; exact absurd c (by decide)
  · have c : W.heap[gm]? = _ := h.meter
    rw [e, row] at c
    injection c with c; injection c with _ c _; exact absurd c (by decide)
  · have c : W.heap[gk]? = _ := h.key
    rw [e, row] at c
    injection c with c; injection c with _ c _; exact absurd c (by decide)
  · have c : W.heap[gi]? = _ := h.info
    rw [e, row] at c
    injection c with c; injection c with _ c _; exact absurd c (by decide)
theorem XEnv.below (h : XEnv w0 x W g m gn gm gk gi vi key N) (hb : Below W.heap.size W W') : XEnv w0 x W' g m gn gm gk gi vi key N := by
  obtain ⟨n, hn, hr⟩ := h.run
  exact ⟨⟨n, hn, hr.kept hb⟩, (hb.block _ h.count.lt).trans h.count, (hb.block _ h.meter.lt).trans h.meter, h.key.kept hb, (hb.block _ h.info.lt).trans h.info⟩
theorem XEnv.ran (h : XEnv w0 x W g m gn gm gk gi vi key N) {n m' : Nat} (hr : Run w0 W g n W') (hn : n ≤ m') : XEnv w0 x W' g m' gn gm gk gi vi key N := by
  obtain ⟨h1, h2, h3, h4⟩ := h.apart
  obtain ⟨n0, _, hr0⟩ := h.run
  exact ⟨⟨n, hn, hr0.trans hr⟩, h.count.kept hr.grown (by intro e; injection e with e; exact h1 e), h.meter.kept hr.grown (by intro e; injection e with e; exact h2 e), hr.other h.key h3, h.info.kept hr.grown (by intro e; injection e with e; exact h4 e)⟩
theorem XEnv.body (h : XEnv w0 x W g m gn gm gk gi vi key N) {X : Nat → Prop} (hX : ¬ X gn ∧ ¬ X gm ∧ ¬ X gk ∧ ¬ X gi) (hb : BodyKeeps x X W W') : XEnv w0 x W' g m gn gm gk gi vi key N := by
  obtain ⟨h1, h2, h3, h4⟩ := hX
  obtain ⟨n0, hn, hr0⟩ := h.run
  exact ⟨⟨n0, hn, hr0.beneath hb.1⟩, hb.2 _ _ h.count rfl h1, hb.2 _ _ h.meter rfl h2, hb.2 _ _ h.key rfl h3, hb.2 _ _ h.info rfl h4⟩
theorem XEnv.own (h : XEnv w0 x W g m gn gm gk gi vi key N) {row : Option Nat} (hg : W.grownBy W' row) (hr : ∀ r, row = some r → ∃ o : Obj, W.heap[r]? = some o ∧ o.isCells = false) (hx : ∀ r, row = some r → x.heap.size ≤ r) : XEnv w0 x W' g m gn gm gk gi vi key N := by
  obtain ⟨n0, hn, hr0⟩ := h.run
  have keep : ∀ (k : Nat) (o : Obj), W.heap[k]? = some o → o.isCells = true → W'.heap[k]? = some o := fun k o hk hc => by
    refine (hg.block k (Array.getElem?_eq_some_iff.1 hk).1 fun e => ?_).trans hk
    obtain ⟨o2, h1, h2⟩ := hr k e.symm
    rw [hk] at h1
    cases h1
    rw [hc] at h2
    cases h2
  exact ⟨⟨n0, hn, hr0.beneath ((Below.refl _ W).grown hg hr0.size hx)⟩, keep _ _ h.count rfl, keep _ _ h.meter rfl, keep _ _ h.key rfl, keep _ _ h.info rfl⟩
end

theorem XEnv.stepped {w0 x A B : World} {g m gn gm gk gi M : Nat} {vi : Value} {key : List UInt8} {N : Nat} (h : XEnv w0 x A g m gn gm gk gi vi key N) (hs : MeterStep g M A B) : XEnv w0 x B g M gn gm gk gi vi key N := by
  obtain ⟨h1, h2, h3, h4⟩ := h.apart
  obtain ⟨n0, _, hr0⟩ := h.run
  exact ⟨hr0.step hs, h.count.kept hs.1 (by intro e; injection e with e; exact h1 e), h.meter.kept hs.1 (by intro e; injection e with e; exact h2 e), h.key.grown hs.1 (by intro e; injection e with e; exact h3 e), h.info.kept hs.1 (by intro e; injection e with e; exact h4 e)⟩
theorem XEnv.lt {w0 x W : World} {g m gn gm gk gi : Nat} {vi : Value} {key : List UInt8} {N : Nat} (h : XEnv w0 x W g m gn gm gk gi vi key N) : gn < W.heap.size ∧ gm < W.heap.size ∧ gk < W.heap.size ∧ gi < W.heap.size := ⟨h.count.lt, h.meter.lt, h.key.lt, h.info.lt⟩
theorem XEnv.more {w0 x W : World} {g m m' gn gm gk gi : Nat} {vi : Value} {key : List UInt8} {N : Nat} (h : XEnv w0 x W g m gn gm gk gi vi key N) (hm : m ≤ m') : XEnv w0 x W g m' gn gm gk gi vi key N := by
  obtain ⟨n, hn, hr⟩ := h.run
  exact ⟨⟨n, Nat.le_trans hn hm, hr⟩, h.count, h.meter, h.key, h.info⟩

/-- What was told last, as the next round reads it. -/
def LastOk (base : Nat) (W : World) (v : Value) (key info : List UInt8) (k : Nat) : Prop :=
  (k = 0 ∧ v = .slice none 0 0) ∨ (0 < k ∧ ∃ b, v = .slice (some ⟨b, 0, none⟩) 32 32 ∧ base ≤ b ∧ RowAt W b 23 (keyC (tB key info k)))
theorem LastOk.bs {base : Nat} {W : World} {v : Value} {key info : List UInt8} {k : Nat} (h : LastOk base W v key info k) : Bs W v (tB key info k) := by
  rcases h with ⟨rfl, rfl⟩ | ⟨hk, b, rfl, _, hr⟩
  · exact Bs.nil W
  · obtain ⟨j, rfl⟩ : ∃ j, k = j + 1 := ⟨k - 1, by omega⟩
    exact row32 hr (tB_length _ _ _)
theorem LastOk.keep {base : Nat} {W W' : World} {v : Value} {key info : List UInt8} {k : Nat} (h : LastOk base W v key info k) (hk : ∀ b cs, RowAt W b 23 cs → base ≤ b → RowAt W' b 23 cs) : LastOk base W' v key info k := by
  rcases h with ⟨rfl, rfl⟩ | ⟨h0, b, rfl, hb, hr⟩
  · exact .inl ⟨rfl, rfl⟩
  · exact .inr ⟨h0, b, rfl, hb, hk b _ hr hb⟩
theorem meter_not_key {W : World} {g n b : Nat} {cs : Array Value} (h : RowAt W g 65 (meterC false n (.slice none 0 0))) (hr : RowAt W b 23 cs) : b ≠ g := by
  rintro rfl
  have e := (show W.heap[b]? = _ from h).symm.trans (show W.heap[b]? = _ from hr)
  injection e with e
  injection e with _ c _
  exact absurd c (by decide)
theorem wrap64k (n : Nat) (h : n < 18446744073709551616) : IntKind.u64.wrap (n : Int) = (n : Int) := by rw [IntKind.wrap_u64]; omega
theorem high1 (k : Nat) (hk : k < 256) (w : World) : Calls Tryd.prog 16 #[.int .u64 (k : Int), .int .i64 1] w (RetBs w [UInt8.ofNat k]) := by
  have h := High_in w k 1 (by omega) (by omega) (by omega)
  have e : (lowB k 1).reverse = [UInt8.ofNat k] := by simp [lowB, byteN]
  rwa [e] at h
/-- However a region's operations came about, one continuation serves. -/
theorem share_walk {P : Program} {md : Region.Mode} {ops : Array Oper} {Q : Exit → Act → World → Prop} {fin : Nat → Bool} {w : World} {T : World → Prop} {m : Nat} {listed : Array Bool} {a : Act} {A : Nat → Option Addr → Nat → Nat → Act} (E : Nat → World → Prop)
    (hgo : ∀ g d c b w', E g w' → Q .normal (A g d c b) w') (h : (∀ g d c b w', E g w' → Q .normal (A g d c b) w') → walkS P md ops Q T fin m listed a w) : walkS P md ops Q T fin m listed a w := h hgo
/-- Two are left, in whichever order: the one that makes a variable, and another one. -/
theorem walkT_two {P : Program} {md : Region.Mode} {ops : Array Oper} {Q : Exit → Act → World → Prop} {S : World → Prop} {fin : Nat → Bool} {i j m : Nat} {oi oj : Oper} {listed : Array Bool} {a : Act} {w : World} (hr : Region.ready md ops listed = [i, j]) (hi : ops[i]? = some oi) (hj : ops[j]? = some oj) (hgi : oi.guard = none) (hgj : oj.guard = none)
    (h1 : ∀ K : Act → World → Prop, (∀ a' w', (fin i = true ∨ S w') → walkS P md ops Q S fin m (listed.setIfInBounds i true) a' w' → K a' w') → oi.wp P a w K Q)
    (h2 : ∀ K : Act → World → Prop, (∀ a' w', (fin j = true ∨ S w') → walkS P md ops Q S fin m (listed.setIfInBounds j true) a' w' → K a' w') → oj.wp P a w K Q) : walkS P md ops Q S fin (m + 1) listed a w := by
  have gone : ∀ o : Oper, o.guard = none → Region.wanted o (yielded ops a.tmps) = true := fun o h => by simp [Region.wanted, h]
  refine ⟨fun h0 => by simp [hr] at h0, fun k hk => ?_⟩
  rw [hr] at hk
  unfold wpOp
  rcases List.mem_cons.1 hk with rfl | hk
  · simp only [hi, gone _ hgi, if_true]
    exact .inl (h1 _ (fun _ _ h1 h2 => ⟨h1, h2⟩))
  · obtain rfl : k = j := by simpa using hk
    simp only [hj, gone _ hgj, if_true]
    exact .inl (h2 _ (fun _ _ h1 h2 => ⟨h1, h2⟩))

set_option maxHeartbeats 8000000 in
theorem expanded1_tells (nn : Nat) (hnn : 1 ≤ nn) (w0 x w : World) (g n0 M gn gm gk gi : Nat) (vi : Value) (key info : List UInt8) (N : Nat) (X : Nat → Prop) (hX : ∀ k, X k → k < w.heap.size) (hX4 : ¬ X gn ∧ ¬ X gm ∧ ¬ X gk ∧ ¬ X gi)
    (hk : key.length = 32) (hi : ∀ W, Below w.heap.size w W → Bs W vi info) (hi2 : 1 < N → Bs x vi info) (hil : info.length ≤ 20000) (hN : N ≤ 255) (hM : n0 + 3 * N ≤ M) (hM2 : M ≤ 10000000) (env : XEnv w0 x w g n0 gn gm gk gi vi key N) :
    SeqR Fence.wide nn Tryd.prog 27 #[.pointer (some ⟨gn, 0, none⟩), .pointer (some ⟨gm, 0, none⟩), .pointer (some ⟨gk, 0, none⟩), .pointer (some ⟨gi, 0, none⟩)]
      (fun y : Nat => #[keyV (tB key info (y + 1))]) (MeterStep g M) (BodyKeeps x X) (fun ys => ys = List.range N) (fun _ => True) N w := by
  intro l J Jx W hW hJ hJx hJR hJxR hY h0
  have EV := Lib.hid (env.below hW)
  have HK := Lib.hid hk
  obtain ⟨IA, ic, rfl, _, _, _⟩ := hi w (Below.refl _ _)
  have HI := Lib.hid hi
  have HI2 := Lib.hid hi2
  have HW0 := Lib.hid hW
  have HJ := Lib.hid hJ
  have HJR := Lib.hid hJR
  have HY := Lib.hid hY
  have HWX : Hid (∀ k, X k → k < W.heap.size) := fun k h => Nat.lt_of_lt_of_le (hX k h) hW.size
  have HX4 := Lib.hid hX4
  have cm := EV.out.count.cell
  clear env hW hk hi hi2 hJ hJx hJR hJxR hY hX hX4
  refine callsIn_of_wp Tryd.func27 rfl trivial ?_ rfl
  simp only [Tryd.ntmps27, List.size_toArray, List.length_cons, List.length_nil, Nat.reduceAdd, Nat.reduceSub, Array.replicate_succ, Array.replicate_zero, List.push_toArray, List.append_toArray, List.nil_append, List.cons_append]
  gi_wp2
  clear cm
  gi_loopw [6, 10] (fun v i wr => ∃ k : Nat, k ≤ N ∧ i = .int .i64 k ∧ J (List.range k) wr ∧ W.heap.size ≤ wr.heap.size ∧ (k = 0 → Below w.heap.size w wr) ∧ LastOk W.heap.size wr v key info k ∧ XEnv w0 x wr g (n0 + 3 * k) gn gm gk gi (.slice IA info.length ic) key N) (fun _ i _ => N - (intOf i).toNat)
  case atStart => exact ⟨0, Nat.zero_le _, rfl, h0, Nat.le_refl _, fun _ => HW0.out, .inl ⟨rfl, rfl⟩, EV.out⟩
  case round =>
    clear h0 EV
    obtain ⟨k, hkN, rfl, hJs, hsz, hfst, hlast, hev⟩ := hrel
    have EV := Lib.hid hev
    have HJs := Lib.hid hJs
    have HL := Lib.hid hlast
    clear hev hJs hlast
    by_cases hlt : k < N
    · gi_wp2
      refine wpIn_wide.2 ?_
      have HS0 : Hid (Boxed wr gm 27 (.pointer (some ⟨g, 0, none⟩)) ∧ Boxed wr gi 68 (.slice IA info.length ic)) := ⟨EV.out.meter, EV.out.info⟩
      obtain ⟨n1, hn1, hrun⟩ := EV.out.run
      obtain ⟨hgn, hgm, hgk, hgi⟩ := EV.out.apart
      obtain ⟨LA, lc, rfl, _, _, _⟩ := HL.out.bs
      have BL : Hid (Bs wr (.slice LA (tB key info k).length lc) (tB key info k)) := HL.out.bs
      have BI : Hid (Bs wr (.slice IA info.length ic) info) := by
        rcases Nat.eq_zero_or_pos k with h | h
        · exact HI.out _ (hfst h)
        · exact hrun.bs (HI2.out (by omega))
      clear hfst
      have BK : Hid (RowAt wr gk 23 (keyC key)) := EV.out.key
      have HTL := tB_le key info k
      obtain ⟨tn, htn⟩ : ∃ t, t = tB key info (k + 1) := ⟨_, rfl⟩
      have LT : Hid (tn.length = 32) := by show _ = _; rw [htn]; exact tB_length _ _ _
      have HT : Hid (macB key [tB key info k, info, [UInt8.ofNat (k + 1)]].flatten = tn) := by show _ = _; rw [htn, tB]; simp
      have HTN := Lib.hid htn
      have R0 := Lib.hid (hrun.self.kept (Below.refl _ _).drew)
      have hn1M : n1 ≤ 100000000 := by omega
      have hK32 : key.length ≤ 100000 := by rw [HK.out]; omega
      have hfl : [tB key info k, info, [UInt8.ofNat (k + 1)]].flatten.length ≤ 100000 := by simp; omega
      have hl0 : 0 < [tB key info k, info, [UInt8.ofNat (k + 1)]].length := by simp
      have hl1 : [tB key info k, info, [UInt8.ofNat (k + 1)]].length ≤ 1000 := by simp
      have hglt := hrun.self.glt
      refine plain_region (S := fun W' => Boxed W' gm 27 (.pointer (some ⟨g, 0, none⟩)) ∧ Boxed W' gi 68 (.slice IA info.length ic)) (fin := fun j => j == 11) (by kernel_rfl) ?_
      have hS : Boxed wr.drew gm 27 (.pointer (some ⟨g, 0, none⟩)) ∧ Boxed wr.drew gi 68 (.slice IA info.length ic) := HS0.out
      have h19 : IntKind.u64.wrap ((k + 1 : Nat) : Int) = ((k + 1 : Nat) : Int) := wrap64k (k + 1) (by omega)
      clear hrun htn HS0
      obtain ⟨k1, hk1⟩ : ∃ k1, k1 = k + 1 := ⟨_, rfl⟩
      have HK1 := Lib.hid hk1
      have hkk : IntKind.i64.wrap ((k : Int) + 1) = (k1 : Int) := by rw [IntWalk.i64_in _ (by omega)]; omega
      rw [← hk1] at h19 HT hfl hl0 hl1
      have hk1b : k1 < 256 := by omega
      clear hk1
      change walkS _ _ _ _ _ _ 12 _ _ _
      apply share_walk (E := fun g8 X => ∃ n', n' ≤ n1 + 3 ∧ wr.heap.size ≤ g8 ∧ g8 ≠ g ∧ RowAt X g8 23 (keyC tn) ∧ Run w0 wr g n' X)
      case h =>
        intro HGO
        have HG := Lib.hid HGO
        clear HGO
        refine walkS_take (i := 0) (oi := ⟨some 13, _, _, _, _, _⟩) (v := .pointer (some ⟨g, 0, none⟩)) rfl (by kernel_rfl) (by kernel_rfl) (fun _ _ _ h => h) _ _ _ _ (by kernel_rfl) (by kernel_rfl) (Or.inl ⟨by rfl, fun w' hS' => (by have c := hS'.1.cell; clear HG hS hS'; go_simp)⟩) hS ?_
        simp only [Act.put, List.setIfInBounds_toArray, List.set_cons_zero, List.set_cons_succ]
        refine walkS_take (i := 1) (oi := ⟨some 14, _, _, _, _, _⟩) (v := .slice (some ⟨gk, 0, none⟩) 32 32) rfl (by kernel_rfl) (by kernel_rfl) (fun _ _ _ h => h) _ _ _ _ (by kernel_rfl) (by kernel_rfl) (Or.inl ⟨by rfl, fun w' hS' => (by clear HG hS hS'; go_simp)⟩) hS ?_
        simp only [Act.put, List.setIfInBounds_toArray, List.set_cons_zero, List.set_cons_succ]
        refine walkS_take (i := 2) (oi := ⟨some 15, _, _, _, _, _⟩) (v := .slice LA (tB key info k).length lc) rfl (by kernel_rfl) (by kernel_rfl) (fun _ _ _ h => h) _ _ _ _ (by kernel_rfl) (by kernel_rfl) (Or.inl ⟨by rfl, fun w' hS' => (by clear HG hS hS'; go_simp)⟩) hS ?_
        simp only [Act.put, List.setIfInBounds_toArray, List.set_cons_zero, List.set_cons_succ]
        refine walkS_take (i := 3) (oi := ⟨some 16, _, _, _, _, _⟩) (v := .slice IA info.length ic) rfl (by kernel_rfl) (by kernel_rfl) (fun _ _ _ h => h) _ _ _ _ (by kernel_rfl) (by kernel_rfl) (Or.inl ⟨by rfl, fun w' hS' => (by have c := hS'.2.cell; clear HG hS hS'; go_simp)⟩) hS ?_
        simp only [Act.put, List.setIfInBounds_toArray, List.set_cons_zero, List.set_cons_succ]
        refine walkS_take (i := 4) (oi := ⟨some 17, _, _, _, _, _⟩) (v := .int .i64 (k : Int)) rfl (by kernel_rfl) (by kernel_rfl) (fun _ _ _ h => h) _ _ _ _ (by kernel_rfl) (by kernel_rfl) (Or.inl ⟨by rfl, fun w' hS' => (by clear HG hS hS'; go_simp)⟩) hS ?_
        simp only [Act.put, List.setIfInBounds_toArray, List.set_cons_zero, List.set_cons_succ]
        refine walkS_take (i := 5) (oi := ⟨some 18, _, _, _, _, _⟩) (v := .int .i64 (k1 : Int)) rfl (by kernel_rfl) (by kernel_rfl) (fun _ _ _ h => h) _ _ _ _ (by kernel_rfl) (by kernel_rfl) (Or.inl ⟨by rfl, fun w' hS' => (by clear HG hS hS'; go_simp)⟩) hS ?_
        simp only [Act.put, List.setIfInBounds_toArray, List.set_cons_zero, List.set_cons_succ]
        refine walkS_take (i := 6) (oi := ⟨some 19, _, _, _, _, _⟩) (v := .int .u64 (k1 : Int)) rfl (by kernel_rfl) (by kernel_rfl) (fun _ _ _ h => h) _ _ _ _ (by kernel_rfl) (by kernel_rfl) (Or.inl ⟨by rfl, fun w' hS' => (by clear HG hS hS'; go_simp)⟩) hS ?_
        simp only [Act.put, List.setIfInBounds_toArray, List.set_cons_zero, List.set_cons_succ]
        refine walkT_two (i := 7) (j := 10) (oi := ⟨some 20, _, _, _, _, _⟩) (oj := ⟨some 8, _, _, _, _, _⟩) (by kernel_rfl) rfl rfl rfl rfl (fun K hK => ?_) (fun K hK => ?_)
        · go_simp
          refine (high1 k1 hk1b _).mono ?_
          intro e x1 h
          obtain ⟨u, he, hu, b1⟩ := h
          subst he
          have s1 := Lib.hid (show Boxed x1 gm _ _ ∧ Boxed x1 gi _ _ from ⟨hS.1.kept (grown_of_below b1) (by simp), hS.2.kept (grown_of_below b1) (by simp)⟩)
          have R1 := Lib.hid (R0.out.kept b1)
          have U := Lib.hid hu
          obtain ⟨UA, uc, hu3, _, _, _⟩ := hu
          replace hu3 : u = .slice UA 1 uc := hu3
          subst hu3
          clear b1
          have hS := s1.out
          clear s1
          refine hK _ _ (.inr hS) ?_
          clear hK K
          try simp only [Act.put, List.setIfInBounds_toArray, List.set_cons_zero, List.set_cons_succ]
          refine walkT_two (i := 8) (j := 10) (oi := ⟨some 21, _, _, _, _, _⟩) (oj := ⟨some 8, _, _, _, _, _⟩) (by kernel_rfl) rfl rfl rfl rfl (fun K hK => ?_) (fun K hK => ?_)
          · go_simp
            obtain ⟨x2, hx2⟩ : ∃ y, y = x1.alloc (.cells #[.slice LA (tB key info k).length lc, .slice IA info.length ic, .slice UA 1 uc] 68) := ⟨_, rfl⟩
            obtain ⟨gb, hgb⟩ : ∃ y, y = x1.heap.size := ⟨_, rfl⟩
            have V := Lib.hid (Bss.three x1 68 _ _ _ _ _ _ (R1.out.bs BL.out) (R1.out.bs BI.out) U.out)
            have bx := alloc_below x1 (.cells #[.slice LA (tB key info k).length lc, .slice IA info.length ic, .slice UA 1 uc] 68)
            have s2 := Lib.hid (show Boxed (x1.alloc (.cells #[.slice LA (tB key info k).length lc, .slice IA info.length ic, .slice UA 1 uc] 68)) gm _ _ ∧ Boxed (x1.alloc (.cells #[.slice LA (tB key info k).length lc, .slice IA info.length ic, .slice UA 1 uc] 68)) gi _ _ from ⟨hS.1.alloc _, hS.2.alloc _⟩)
            rw [← hx2] at V bx s2
            rw [← hgb] at V
            rw [← hx2, ← hgb]
            have hbg : gb ≠ g := by rw [hgb]; exact Nat.ne_of_gt (Nat.lt_of_lt_of_le hglt R1.out.size)
            have R2 := Lib.hid (R1.out.kept bx)
            clear hx2 hgb bx
            have hS := s2.out
            clear s2
            refine hK _ _ (.inr hS) ?_
            clear hK K
            try simp only [Act.put, List.setIfInBounds_toArray, List.set_cons_zero, List.set_cons_succ]
            refine walkT_two (i := 9) (j := 10) (oi := ⟨some 22, _, _, _, _, _⟩) (oj := ⟨some 8, _, _, _, _, _⟩) (by kernel_rfl) rfl rfl rfl rfl (fun K hK => ?_) (fun K hK => ?_)
            · go_simp
              refine (macSum_any w0 _ g n1 (.slice (some ⟨gk, 0, none⟩) 32 32) key _ 0 3 [tB key info k, info, [UInt8.ofNat k1]] (by exact R2.out.self) hn1M (by exact R2.out.bs (row32 BK.out HK.out)) hK32 (by exact V.out) hbg hl0 hfl hl1).mono ?_
              intro e x3 h
              obtain ⟨n2, hn2, he, r3⟩ := h
              subst he
              rw [HT.out]
              have s3 := Lib.hid (show Boxed x3 gm _ _ ∧ Boxed x3 gi _ _ from ⟨hS.1.kept r3.grown (by intro e; injection e with e; exact hgm e), hS.2.kept r3.grown (by intro e; injection e with e; exact hgi e)⟩)
              have R3 := Lib.hid (R2.out.trans r3)
              clear r3
              have hS := s3.out
              clear s3
              refine hK _ _ (.inr hS) ?_
              clear hK K
              try simp only [Act.put, List.setIfInBounds_toArray, List.set_cons_zero, List.set_cons_succ]
              refine walkS_only (i := 10) (o := ⟨some 8, _, _, _, _, _⟩) (by kernel_rfl) rfl rfl fun K hK => ?_
              refine wp_alloc_row 23 rfl (keyC zeroKey) Tryd.zeroK ?_
              intro g8 x4 nn4
              have s4 := Lib.hid (show Boxed x4 gm _ _ ∧ Boxed x4 gi _ _ from ⟨hS.1.kept (grown_of_below nn4.below) (by simp), hS.2.kept (grown_of_below nn4.below) (by simp)⟩)
              have A8 := Lib.hid nn4.row
              have h8 : wr.heap.size ≤ g8 := by rw [nn4.spot]; exact R3.out.size
              have h8g : g8 ≠ g := Nat.ne_of_gt (Nat.lt_of_lt_of_le hglt h8)
              have R4 := Lib.hid (R3.out.kept nn4.below)
              clear nn4
              have hS := s4.out
              clear s4
              refine hK _ _ (.inr hS) ?_
              clear hK K
              try simp only [Act.put, List.setIfInBounds_toArray, List.set_cons_zero, List.set_cons_succ]
              refine walkS_only (i := 11) (o := ⟨none, _, _, _, _, _⟩) (by kernel_rfl) rfl rfl fun K hK => ?_
              refine wp_store_row 23 (.tmp 8) (.tmp 22) rfl g8 23 _ (keyC tn) rfl rfl A8.out (keyC_same zeroKey_length LT.out) (Tryd.sizeKey tn LT.out) (keyC_one tn) ?_
              intro x5 p5
              exact hK _ _ (.inl rfl) (walkS_done (by kernel_rfl) (HG.out g8 UA uc gb x5 ⟨n2, hn2, h8, h8g, p5.row, R4.out.put p5 h8 h8g⟩) _)
            · refine wp_alloc_row 23 rfl (keyC zeroKey) Tryd.zeroK ?_
              intro g8 x3 nn3
              have s3 := Lib.hid (show Boxed x3 gm _ _ ∧ Boxed x3 gi _ _ from ⟨hS.1.kept (grown_of_below nn3.below) (by simp), hS.2.kept (grown_of_below nn3.below) (by simp)⟩)
              have A8 := Lib.hid nn3.row
              have h8 : wr.heap.size ≤ g8 := by rw [nn3.spot]; exact R2.out.size
              have h8g : g8 ≠ g := Nat.ne_of_gt (Nat.lt_of_lt_of_le hglt h8)
              have R3 := Lib.hid (R2.out.kept nn3.below)
              have V := Lib.hid (V.out.keep nn3.below)
              clear nn3
              have hS := s3.out
              clear s3
              refine hK _ _ (.inr hS) ?_
              clear hK K
              try simp only [Act.put, List.setIfInBounds_toArray, List.set_cons_zero, List.set_cons_succ]
              refine walkS_only (i := 9) (o := ⟨some 22, _, _, _, _, _⟩) (by kernel_rfl) rfl rfl fun K hK => ?_
              go_simp
              refine (macSum_any w0 _ g n1 (.slice (some ⟨gk, 0, none⟩) 32 32) key _ 0 3 [tB key info k, info, [UInt8.ofNat k1]] (by exact R3.out.self) hn1M (by exact R3.out.bs (row32 BK.out HK.out)) hK32 (by exact V.out) hbg hl0 hfl hl1).mono ?_
              intro e x4 h
              obtain ⟨n2, hn2, he, r4⟩ := h
              subst he
              rw [HT.out]
              have s4 := Lib.hid (show Boxed x4 gm _ _ ∧ Boxed x4 gi _ _ from ⟨hS.1.kept r4.grown (by intro e; injection e with e; exact hgm e), hS.2.kept r4.grown (by intro e; injection e with e; exact hgi e)⟩)
              have R4 := Lib.hid (R3.out.trans r4)
              have A8 := Lib.hid (r4.other A8.out h8g)
              clear r4
              have hS := s4.out
              clear s4
              refine hK _ _ (.inr hS) ?_
              clear hK K
              try simp only [Act.put, List.setIfInBounds_toArray, List.set_cons_zero, List.set_cons_succ]
              refine walkS_only (i := 11) (o := ⟨none, _, _, _, _, _⟩) (by kernel_rfl) rfl rfl fun K hK => ?_
              refine wp_store_row 23 (.tmp 8) (.tmp 22) rfl g8 23 _ (keyC tn) rfl rfl A8.out (keyC_same zeroKey_length LT.out) (Tryd.sizeKey tn LT.out) (keyC_one tn) ?_
              intro x5 p5
              exact hK _ _ (.inl rfl) (walkS_done (by kernel_rfl) (HG.out g8 UA uc gb x5 ⟨n2, hn2, h8, h8g, p5.row, R4.out.put p5 h8 h8g⟩) _)
          · refine wp_alloc_row 23 rfl (keyC zeroKey) Tryd.zeroK ?_
            intro g8 x2 nn2
            have s2 := Lib.hid (show Boxed x2 gm _ _ ∧ Boxed x2 gi _ _ from ⟨hS.1.kept (grown_of_below nn2.below) (by simp), hS.2.kept (grown_of_below nn2.below) (by simp)⟩)
            have A8 := Lib.hid nn2.row
            have h8 : wr.heap.size ≤ g8 := by rw [nn2.spot]; exact R1.out.size
            have h8g : g8 ≠ g := Nat.ne_of_gt (Nat.lt_of_lt_of_le hglt h8)
            have R2 := Lib.hid (R1.out.kept nn2.below)
            have U := Lib.hid (U.out.below nn2.below)
            clear nn2
            have hS := s2.out
            clear s2
            refine hK _ _ (.inr hS) ?_
            clear hK K
            try simp only [Act.put, List.setIfInBounds_toArray, List.set_cons_zero, List.set_cons_succ]
            refine walkS_only (i := 8) (o := ⟨some 21, _, _, _, _, _⟩) (by kernel_rfl) rfl rfl fun K hK => ?_
            go_simp
            obtain ⟨x3, hx3⟩ : ∃ y, y = x2.alloc (.cells #[.slice LA (tB key info k).length lc, .slice IA info.length ic, .slice UA 1 uc] 68) := ⟨_, rfl⟩
            obtain ⟨gb, hgb⟩ : ∃ y, y = x2.heap.size := ⟨_, rfl⟩
            have V := Lib.hid (Bss.three x2 68 _ _ _ _ _ _ (R2.out.bs BL.out) (R2.out.bs BI.out) U.out)
            have bx := alloc_below x2 (.cells #[.slice LA (tB key info k).length lc, .slice IA info.length ic, .slice UA 1 uc] 68)
            have s3 := Lib.hid (show Boxed (x2.alloc (.cells #[.slice LA (tB key info k).length lc, .slice IA info.length ic, .slice UA 1 uc] 68)) gm _ _ ∧ Boxed (x2.alloc (.cells #[.slice LA (tB key info k).length lc, .slice IA info.length ic, .slice UA 1 uc] 68)) gi _ _ from ⟨hS.1.alloc _, hS.2.alloc _⟩)
            rw [← hx3] at V bx s3
            rw [← hgb] at V
            rw [← hx3, ← hgb]
            have hbg : gb ≠ g := by rw [hgb]; exact Nat.ne_of_gt (Nat.lt_of_lt_of_le hglt R2.out.size)
            have R3 := Lib.hid (R2.out.kept bx)
            have A8 := Lib.hid (A8.out.kept bx)
            clear hx3 hgb bx
            have hS := s3.out
            clear s3
            refine hK _ _ (.inr hS) ?_
            clear hK K
            try simp only [Act.put, List.setIfInBounds_toArray, List.set_cons_zero, List.set_cons_succ]
            refine walkS_only (i := 9) (o := ⟨some 22, _, _, _, _, _⟩) (by kernel_rfl) rfl rfl fun K hK => ?_
            go_simp
            refine (macSum_any w0 _ g n1 (.slice (some ⟨gk, 0, none⟩) 32 32) key _ 0 3 [tB key info k, info, [UInt8.ofNat k1]] (by exact R3.out.self) hn1M (by exact R3.out.bs (row32 BK.out HK.out)) hK32 (by exact V.out) hbg hl0 hfl hl1).mono ?_
            intro e x4 h
            obtain ⟨n2, hn2, he, r4⟩ := h
            subst he
            rw [HT.out]
            have s4 := Lib.hid (show Boxed x4 gm _ _ ∧ Boxed x4 gi _ _ from ⟨hS.1.kept r4.grown (by intro e; injection e with e; exact hgm e), hS.2.kept r4.grown (by intro e; injection e with e; exact hgi e)⟩)
            have R4 := Lib.hid (R3.out.trans r4)
            have A8 := Lib.hid (r4.other A8.out h8g)
            clear r4
            have hS := s4.out
            clear s4
            refine hK _ _ (.inr hS) ?_
            clear hK K
            try simp only [Act.put, List.setIfInBounds_toArray, List.set_cons_zero, List.set_cons_succ]
            refine walkS_only (i := 11) (o := ⟨none, _, _, _, _, _⟩) (by kernel_rfl) rfl rfl fun K hK => ?_
            refine wp_store_row 23 (.tmp 8) (.tmp 22) rfl g8 23 _ (keyC tn) rfl rfl A8.out (keyC_same zeroKey_length LT.out) (Tryd.sizeKey tn LT.out) (keyC_one tn) ?_
            intro x5 p5
            exact hK _ _ (.inl rfl) (walkS_done (by kernel_rfl) (HG.out g8 UA uc gb x5 ⟨n2, hn2, h8, h8g, p5.row, R4.out.put p5 h8 h8g⟩) _)
        · refine wp_alloc_row 23 rfl (keyC zeroKey) Tryd.zeroK ?_
          intro g8 x1 nn1
          have s1 := Lib.hid (show Boxed x1 gm _ _ ∧ Boxed x1 gi _ _ from ⟨hS.1.kept (grown_of_below nn1.below) (by simp), hS.2.kept (grown_of_below nn1.below) (by simp)⟩)
          have A8 := Lib.hid nn1.row
          have h8 : wr.heap.size ≤ g8 := by rw [nn1.spot]; exact R0.out.size
          have h8g : g8 ≠ g := Nat.ne_of_gt (Nat.lt_of_lt_of_le hglt h8)
          have R1 := Lib.hid (R0.out.kept nn1.below)
          clear nn1
          have hS := s1.out
          clear s1
          refine hK _ _ (.inr hS) ?_
          clear hK K
          try simp only [Act.put, List.setIfInBounds_toArray, List.set_cons_zero, List.set_cons_succ]
          refine walkS_only (i := 7) (o := ⟨some 20, _, _, _, _, _⟩) (by kernel_rfl) rfl rfl fun K hK => ?_
          go_simp
          refine (high1 k1 hk1b _).mono ?_
          intro e x2 h
          obtain ⟨u, he, hu, b2⟩ := h
          subst he
          have s2 := Lib.hid (show Boxed x2 gm _ _ ∧ Boxed x2 gi _ _ from ⟨hS.1.kept (grown_of_below b2) (by simp), hS.2.kept (grown_of_below b2) (by simp)⟩)
          have R2 := Lib.hid (R1.out.kept b2)
          have U := Lib.hid hu
          obtain ⟨UA, uc, hu3, _, _, _⟩ := hu
          replace hu3 : u = .slice UA 1 uc := hu3
          subst hu3
          have A8 := Lib.hid (A8.out.kept b2)
          clear b2
          have hS := s2.out
          clear s2
          refine hK _ _ (.inr hS) ?_
          clear hK K
          try simp only [Act.put, List.setIfInBounds_toArray, List.set_cons_zero, List.set_cons_succ]
          refine walkS_only (i := 8) (o := ⟨some 21, _, _, _, _, _⟩) (by kernel_rfl) rfl rfl fun K hK => ?_
          go_simp
          obtain ⟨x3, hx3⟩ : ∃ y, y = x2.alloc (.cells #[.slice LA (tB key info k).length lc, .slice IA info.length ic, .slice UA 1 uc] 68) := ⟨_, rfl⟩
          obtain ⟨gb, hgb⟩ : ∃ y, y = x2.heap.size := ⟨_, rfl⟩
          have V := Lib.hid (Bss.three x2 68 _ _ _ _ _ _ (R2.out.bs BL.out) (R2.out.bs BI.out) U.out)
          have bx := alloc_below x2 (.cells #[.slice LA (tB key info k).length lc, .slice IA info.length ic, .slice UA 1 uc] 68)
          have s3 := Lib.hid (show Boxed (x2.alloc (.cells #[.slice LA (tB key info k).length lc, .slice IA info.length ic, .slice UA 1 uc] 68)) gm _ _ ∧ Boxed (x2.alloc (.cells #[.slice LA (tB key info k).length lc, .slice IA info.length ic, .slice UA 1 uc] 68)) gi _ _ from ⟨hS.1.alloc _, hS.2.alloc _⟩)
          rw [← hx3] at V bx s3
          rw [← hgb] at V
          rw [← hx3, ← hgb]
          have hbg : gb ≠ g := by rw [hgb]; exact Nat.ne_of_gt (Nat.lt_of_lt_of_le hglt R2.out.size)
          have R3 := Lib.hid (R2.out.kept bx)
          have A8 := Lib.hid (A8.out.kept bx)
          clear hx3 hgb bx
          have hS := s3.out
          clear s3
          refine hK _ _ (.inr hS) ?_
          clear hK K
          try simp only [Act.put, List.setIfInBounds_toArray, List.set_cons_zero, List.set_cons_succ]
          refine walkS_only (i := 9) (o := ⟨some 22, _, _, _, _, _⟩) (by kernel_rfl) rfl rfl fun K hK => ?_
          go_simp
          refine (macSum_any w0 _ g n1 (.slice (some ⟨gk, 0, none⟩) 32 32) key _ 0 3 [tB key info k, info, [UInt8.ofNat k1]] (by exact R3.out.self) hn1M (by exact R3.out.bs (row32 BK.out HK.out)) hK32 (by exact V.out) hbg hl0 hfl hl1).mono ?_
          intro e x4 h
          obtain ⟨n2, hn2, he, r4⟩ := h
          subst he
          rw [HT.out]
          have s4 := Lib.hid (show Boxed x4 gm _ _ ∧ Boxed x4 gi _ _ from ⟨hS.1.kept r4.grown (by intro e; injection e with e; exact hgm e), hS.2.kept r4.grown (by intro e; injection e with e; exact hgi e)⟩)
          have R4 := Lib.hid (R3.out.trans r4)
          have A8 := Lib.hid (r4.other A8.out h8g)
          clear r4
          have hS := s4.out
          clear s4
          refine hK _ _ (.inr hS) ?_
          clear hK K
          try simp only [Act.put, List.setIfInBounds_toArray, List.set_cons_zero, List.set_cons_succ]
          refine walkS_only (i := 11) (o := ⟨none, _, _, _, _, _⟩) (by kernel_rfl) rfl rfl fun K hK => ?_
          refine wp_store_row 23 (.tmp 8) (.tmp 22) rfl g8 23 _ (keyC tn) rfl rfl A8.out (keyC_same zeroKey_length LT.out) (Tryd.sizeKey tn LT.out) (keyC_one tn) ?_
          intro x5 p5
          exact hK _ _ (.inl rfl) (walkS_done (by kernel_rfl) (HG.out g8 UA uc gb x5 ⟨n2, hn2, h8, h8g, p5.row, R4.out.put p5 h8 h8g⟩) _)
      intro g8 UA uc gb x5 hE
      obtain ⟨n2, hn2, h8, h8g, hT, r5⟩ := hE
      have EV2 := Lib.hid (EV.out.ran (m' := n0 + 3 * (k + 1)) r5 (by omega))
      have hJ2 := HJR.out _ _ _ HJs.out (r5.meterStep (by omega))
      have TT := Lib.hid hT
      have hsz5 := r5.size
      have HN := Lib.hid (show RowAt x5 g8 23 (keyC (tB key info (k + 1))) by rw [← HTN.out]; exact hT)
      obtain ⟨fn, tmps, assign, body, hy, hR⟩ := HY.out _ k x5 hJ2 (by simp; omega)
      have HJ3 : Hid (List.range k ++ [k] = List.range (k + 1)) := List.range_succ.symm
      rw [← HTN.out] at hy
      unfold keyV at hy
      clear hJ2 hT r5 EV R0 BL BI BK HL HJs
      gi_wp2_with (with_reducible refine wideL_load_row (o := ⟨some 24, _, _, _, _, _⟩) rfl 23 (.tmp 8) rfl g8 (by with_unfolding_all rfl) 23 (keyC tn) (0, 0) (.array 32 5) (by with_unfolding_all exact TT.out) Tryd.underlying23 rfl (Tryd.sizeKey tn LT.out) ?_)
      gi_wp2
      refine hR.mono ?_
      rintro e W3 (⟨rfl, hJ3, hk3⟩ | ⟨rfl, hJx3⟩)
      · have EV3 := Lib.hid (EV2.out.body HX4.out hk3)
        have HT3 := Lib.hid (hk3.2 _ _ HN.out rfl (fun h => by have := HWX.out _ h; omega))
        have hsz3 : W.heap.size ≤ W3.heap.size := Nat.le_trans (by have := (Array.getElem?_eq_some_iff.1 (hk3.2 _ _ HN.out rfl (fun h => by have := HWX.out _ h; omega))).1; omega) (Nat.le_refl _)
        rw [HJ3.out] at hJ3
        have HJ4 := Lib.hid hJ3
        clear hJ3 hk3
        gi_wp2
        go_roundw
        case rel => exact ⟨k + 1, by omega, by rw [HK1.out], HJ4.out, hsz3, (fun h => by omega), .inr ⟨by omega, g8, rfl, by omega, HT3.out⟩, EV3.out⟩
        case measure => have := HK1.out; simp [intOf]; omega
      · gi_wp2
        refine bodyPost_ret (results_none rfl _ _ _) rfl ?_
        exact ⟨⟨_, rfl⟩, .inr ⟨_, trivial, hJx3⟩⟩
    · have hkN2 : k = N := by omega
      have HJ5 : Hid (J (List.range N) wr) := by rw [← hkN2]; exact HJs
      clear hkN2 HJs
      gi_wp2
      go_end0
      exact ⟨⟨_, rfl⟩, .inl ⟨_, rfl, HJ5.out⟩⟩
end Go.Proofs.YtjlhmcnajgafgaaDoor
end
section
namespace Go.Proofs.YtjlhmcnajgafgaaDoor
open Go.RowKit Go.Shelf
attribute [local go_sem] Oper.semAt_some
set_option linter.unusedVariables false
set_option maxRecDepth 20000

set_option maxHeartbeats 1000000 in
theorem expanded_any (w0 x w : World) (g n : Nat) (hr : Run w0 x g n w) (A : Option Addr) (l c : Nat) (key : List UInt8) (hk : key.length = 32) (N : Nat) :
    Calls Tryd.prog 19 #[.pointer (some ⟨g, 0, none⟩), keyV key, .slice A l c, .int .i64 (N : Int)] w fun e w' => ∃ gn gm gk gi : Nat,
      e = .returned (.func (.func 27) #[] #[.pointer (some ⟨gn, 0, none⟩), .pointer (some ⟨gm, 0, none⟩), .pointer (some ⟨gk, 0, none⟩), .pointer (some ⟨gi, 0, none⟩)]) ∧
      XEnv w0 x w' g n gn gm gk gi (.slice A l c) key N ∧ (w.heap.size ≤ gn ∧ w.heap.size ≤ gm ∧ w.heap.size ≤ gk ∧ w.heap.size ≤ gi) ∧ Below w.heap.size w w' := by
  have HR := Lib.hid hr
  clear hr
  go_enter Tryd.func19, Tryd.ntmps19
  go_wp2_with ((with_reducible refine wpList_box_row (o := ⟨some 5, _, _, _, _, _⟩) rfl 23 (.tmp 1) rfl (keyC key) (by with_unfolding_all rfl) ?_); intro g1 w1 n1)
  go_ret
  have z1 := n1.size
  have e1 := n1.spot
  simp only [World.size_alloc] at e1 z1
  have b1 : Below w.heap.size w (w.alloc (.cells #[.pointer (some ⟨g, 0, none⟩)] 27)) := alloc_below _ _
  have b2 : Below w.heap.size w w1 := below_size b1 n1.below
  have b3 : Below w.heap.size w (w1.alloc (.cells #[.slice A l c] 68)) := b2.alloc b2.size _
  have b4 : Below w.heap.size w ((w1.alloc (.cells #[.slice A l c] 68)).alloc (.cells #[.int .i64 (N : Int)] 3)) := b3.alloc b3.size _
  refine ⟨w1.heap.size + 1, w.heap.size, g1, w1.heap.size, ?_, ⟨⟨n, Nat.le_refl _, HR.out.kept b4⟩, ?_, ?_, ?_, ?_⟩, ⟨by omega, by omega, by omega, by omega⟩, b4⟩
  · simp
  · have := Boxed.new (w1.alloc (.cells #[.slice A l c] 68)) 3 (.int .i64 (N : Int))
    rwa [World.size_alloc] at this
  · exact (((Boxed.new w 27 (.pointer (some ⟨g, 0, none⟩))).kept (grown_of_below n1.below) (by simp)).alloc _).alloc _
  · exact (n1.row.alloc _).alloc _
  · exact (Boxed.new w1 68 (.slice A l c)).alloc _
end Go.Proofs.YtjlhmcnajgafgaaDoor
end
