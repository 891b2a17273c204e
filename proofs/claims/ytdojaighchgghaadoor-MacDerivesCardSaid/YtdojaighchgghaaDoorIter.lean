/-
  A loop over a function whose rounds are told by an iterator that, between two of them, turns what is older than the loop (R says what): contract and law. Conditions: as each names them.
-/
import Derived.RangeFuncNested
namespace Go.Proofs.YtdojaighchgghaaDoor
open Go.RowKit
set_option linter.unusedVariables false

/-- The iterator's contract: J stands behind each round; it may say nothing that R turns. -/
def SeqR {α : Type} (F : Fence) (n : Nat) (P : Program) (g : Nat) (lb : Array Value) (encs : α → Array Value) (R Kp : World → World → Prop) (S Sp : List α → Prop) (N : Nat) (w : World) : Prop :=
  ∀ (l : Nat) (J Jx : List α → World → Prop) (W : World), Below w.heap.size w W → AbidesFrom W.heap.size J → AbidesFrom W.heap.size Jx →
    (∀ s A B, J s A → R A B → J s B) → (∀ s A B, Jx s A → R A B → Jx s B) →
    (∀ pre x W1, J pre W1 → pre.length < N → YieldAt F (n - 1) P l (encs x) W1 fun e W' =>
      (e = .returned (.bool true) ∧ J (pre ++ [x]) W' ∧ Kp W1 W') ∨ (e = .returned (.bool false) ∧ Jx (pre ++ [x]) W')) →
    J [] W →
    CallsIn F n P g (#[.func (.yield l) #[] #[]] ++ lb) W fun e W' => (∃ v, e = .returned v) ∧ ((∃ xs, S xs ∧ J xs W') ∨ (∃ pre, Sp pre ∧ Jx pre W'))

variable {F : Fence} {n : Nat} {P : Program}

theorem wpIn_rangeFunc_R {α : Type} {g : Operand} {ps : Array Tmp} {assign body : Code} {Q : Exit → Act → World → Prop} {a : Act} {w : World}
    (hro : F.round = none) (h1 : 1 ≤ n) {gf : Nat} {lb : Array Value} (hg : a.eval g = .func (.func gf) #[] lb) (hFg : F.fn gf) (eg : ∀ args w, (callFunc gf args).run P w = .ok (.enter gf args) w)
    {encs : α → Array Value} {R Kp : World → World → Prop} {S Sp : List α → Prop} {N : Nat} {w0 : World} (hseq : SeqR F (n - 1) P gf lb encs R Kp S Sp N w0)
    (hRk : ∀ A B, R A B → ∀ k o, w.heap.size ≤ k → A.heap[k]? = some o → o.isCells = false → B.heap[k]? = some o)
    (hKt : ∀ {A B C : World}, Kp A B → Kp B C → Kp A C) (hKb : ∀ (W : World) (l : Nat) (o o' : Obj), w.heap.size ≤ l → W.heap[l]? = some o → o.isCells = false → o.isWalk = false → Kp W (W.putObj l o')) (hb0 : Below w0.heap.size w0 w) (hps : ∀ x, (encs x).size = ps.size)
    (I : List α → World → Prop) (Ix : Code → List α → World → Prop) (hI : OwnFrom w.heap.size I) (hIx : ∀ c, OwnFrom w.heap.size (Ix c)) (hIR : ∀ s A B, I s A → R A B → I s B) (hIxR : ∀ c s A B, Ix c s A → R A B → Ix c s B) (h0 : I [] w)
    (Ax : α → Act → World → Prop) (hAx : ∀ x a', OwnFrom w.heap.size (fun (_ : Unit) W => Ax x a' W))
    (hassign : ∀ (l : Nat) (pre : List α) (x : α) (W : World) (K : Act → World → Prop), I pre W → (∀ a' W', KeepsFrom w.heap.size W W' → Kp W W' → I pre W' → Ax x a' W' → K a' W') →
      assign.wpIn (F.inRound l) (n - 1 - 1) P (Exit.then K (fun _ _ _ => False)) { tmps := (ps.zip (encs x)).foldl (fun t (p, v) => t.setIfInBounds p v) a.tmps, defers := [] } W)
    (hbody : ∀ (l : Nat) (pre : List α) (x : α) (a' : Act) (W : World), w.heap.size ≤ l → (∃ r, W.heap[l]? = some (.loop r)) → I pre W → Ax x a' W → pre.length < N → body.wpIn (F.inRound l) (n - 1 - 1) P (ownPostG w.heap.size Kp I Ix (pre ++ [x]) W) a' W)
    (hdone : ∀ (D : Nat) (xs : List α) (W : World), w.heap.size ≤ D → S xs → I xs W → W.heap[D]? = some (.deferred (some [])) → Q .normal { a with defers := { target := .collected D, args := #[] } :: a.defers } W)
    (hstop : ∀ (D : Nat) (c : Code) (pre : List α) (W : World), w.heap.size ≤ D → Sp pre → Ix c pre W → W.heap[D]? = some (.deferred (some [])) → c.wpIn F n P Q { a with defers := { target := .collected D, args := #[] } :: a.defers } W) :
    (Code.rangeFunc g ps assign body).wpIn F n P Q a w := by
  refine wpIn_rangeFunc fun fn hfn => ?_
  rw [hro]
  obtain ⟨B, hB⟩ : ∃ B, B = w.heap.size := ⟨_, rfl⟩
  obtain ⟨rec, hrec⟩ : ∃ rec : LoopState → Option Code → Loop, rec = fun st pe => { state := st, pending := pe, fn, tmps := a.tmps, params := ps, assign, body, defers := B } := ⟨_, rfl⟩
  obtain ⟨W1, hW1⟩ : ∃ W1, W1 = (w.alloc (.deferred (some []))).alloc (.loop (rec .ready none)) := ⟨_, rfl⟩
  have hD0 : W1.heap[B]? = some (.deferred (some [])) := by
    rw [hW1, hB]; exact (Below.heap_alloc _ _ _ (by simp)).trans (World.alloc_heap_new w _)
  have hL0 : W1.heap[B + 1]? = some (.loop (rec .ready none)) := by
    have := World.alloc_heap_new (w.alloc (.deferred (some []))) (.loop (rec .ready none)); rwa [World.size_alloc, ← hB, ← hW1] at this
  have hb1 : Below w.heap.size w W1 := by rw [hW1]; exact ((Below.refl _ w).alloc (Nat.le_refl _) _).alloc (by simp) _
  have hI0 : I [] W1 := by rw [hW1]; exact hI.alloc _ (hI.alloc _ h0)
  refine ⟨B + 1, [{ target := .collected B, args := #[] }], W1, { target := .fn (.func gf) lb, args := #[.func (.yield (B + 1)) #[] #[]] }, W1, gf, #[.func (.yield (B + 1)) #[] #[]] ++ lb, W1,
    by rw [hW1, hrec, hB]; exact run_enterLoop_outer _ _ _ _ _, by simp only [resolve, hg]; simp [go_sem], by intro f' hf'; simp [Target.leads] at hf'; subst hf'; exact hFg, by simp [invoke, go_sem, eg], fun _ => h1, ?_⟩
  have hWB : B + 2 ≤ W1.heap.size := by rw [hW1]; simp only [World.size_alloc]; omega
  clear hW1
  have hBle : w0.heap.size ≤ B := by rw [hB]; exact hb0.size
  have hsz : w.heap.size = B := hB.symm
  rw [hsz] at hI hRk hb1
  simp only [hsz] at hIx hKb hassign hbody hdone hstop hAx
  -- what the loop keeps of its own: its record in a state, and what it has deferred
  obtain ⟨At, hAt⟩ : ∃ At : LoopState → Option Code → World → Prop, At = fun st pe W => W.heap[B + 1]? = some (.loop (rec st pe)) ∧ W.heap[B]? = some (.deferred (some [])) := ⟨_, rfl⟩
  have keep : ∀ {st pe X Y} {row : Option Nat}, At st pe X → X.grownBy Y row → (∀ r, row = some r → W1.heap.size ≤ r ∧ ∃ o : Obj, X.heap[r]? = some o ∧ o.isWalk = true) → At st pe Y := by
    intro st pe X Y row hs hgr hr
    rw [hAt] at hs ⊢
    have far : ∀ k, k ≤ B + 1 → k < X.heap.size → Y.heap[k]? = X.heap[k]? := fun k hk hx => hgr.block k hx fun e => by have := (hr k e.symm).1; omega
    exact ⟨(far _ (Nat.le_refl _) (Array.getElem?_eq_some_iff.1 hs.1).1).trans hs.1, (far _ (Nat.le_succ _) (Array.getElem?_eq_some_iff.1 hs.2).1).trans hs.2⟩
  have keepR : ∀ {st pe X Y}, At st pe X → R X Y → At st pe Y := by
    intro st pe X Y hs hr
    rw [hAt] at hs ⊢
    exact ⟨hRk X Y hr _ _ (Nat.le_succ _) hs.1 rfl, hRk X Y hr _ _ (Nat.le_refl _) hs.2 rfl⟩
  have put : ∀ {st pe X} (st' : LoopState) (pe' : Option Code), At st pe X → At st' pe' (X.putObj (B + 1) (.loop (rec st' pe'))) := by
    intro st pe X st' pe' hs
    rw [hAt] at hs ⊢
    exact ⟨World.putObj_heap_same (Array.getElem?_eq_some_iff.1 hs.1).1, (World.putObj_heap_other (by omega)).trans hs.2⟩
  have keepF : ∀ {st pe X Y}, At st pe X → KeepsFrom B X Y → At st pe Y := by
    intro st pe X Y hs hk
    rw [hAt] at hs ⊢
    exact ⟨hk.same _ _ (Nat.le_succ _) hs.1 rfl, hk.same _ _ (Nat.le_refl _) hs.2 rfl⟩
  have loopOf : ∀ {st pe X}, At st pe X → X.heap[B + 1]? = some (.loop (rec st pe)) := fun hs => by rw [hAt] at hs; exact hs.1
  have defOf : ∀ {st pe X}, At st pe X → X.heap[B]? = some (.deferred (some [])) := fun hs => by rw [hAt] at hs; exact hs.2
  have at0 : At .ready none W1 := by rw [hAt]; exact ⟨hL0, hD0⟩
  have cells : ∀ {X Y : World} {row : Option Nat}, (∀ r, row = some r → W1.heap.size ≤ r ∧ ∃ o : Obj, X.heap[r]? = some o ∧ o.isWalk = true) → (∀ r, row = some r → B ≤ r ∧ ∃ o : Obj, X.heap[r]? = some o ∧ o.isCells = false) :=
    fun hr r e => by obtain ⟨hb, o, ho, hw⟩ := hr r e; exact ⟨by omega, o, ho, Obj.not_cells_of_walk hw⟩
  have hb01 : Below w0.heap.size w0 W1 := hb0.trans (hb1.mono hBle)
  clear hAt hL0 hD0
  refine (hseq (B + 1) (fun pre W => I pre W ∧ At .ready none W) (fun pre W => ∃ c, Ix c pre W ∧ At .done (some c) W) W1 hb01
    (fun s X Y row hs hgr hr => ⟨hI s X Y row hs.1 hgr (cells (Y := Y) hr), keep hs.2 hgr hr⟩)
    (fun s X Y row ⟨c, hs⟩ hgr hr => ⟨c, hIx c s X Y row hs.1 hgr (cells (Y := Y) hr), keep hs.2 hgr hr⟩)
    (fun s X Y hs hr => ⟨hIR s X Y hs.1 hr, keepR hs.2 hr⟩) (fun s X Y ⟨c, hs⟩ hr => ⟨c, hIxR c s X Y hs.1 hr, keepR hs.2 hr⟩) ?_ ⟨hI0, at0⟩).mono ?_
  · rintro pre x X ⟨hi, hat⟩ hlen
    have hy := run_yield (P := P) (args := encs x) (loopOf hat) (by rw [hrec]; exact hps x)
    rw [hrec] at hy
    refine ⟨fn, _, assign, body, hy, roundIn_of_wpIn hfn (hassign _ pre x X _ hi fun a' X2 hkf hkp hi2 hax => ?_)⟩
    have hat2 := keepF hat hkf
    refine ⟨_, run_beginRound (loopOf hat2) (by rw [hrec]), ?_⟩
    have hat3 := put .busy none hat2
    have hkb := hKb X2 (B + 1) _ (.loop (rec .busy none)) (Nat.le_succ _) (loopOf hat2) rfl rfl
    have hi3 := hI.putObj (.loop (rec .busy none)) hi2 (Nat.le_succ _) (loopOf hat2) rfl
    have hax3 := (hAx x a').putObj (s := ()) (.loop (rec .busy none)) hax (Nat.le_succ _) (loopOf hat2) rfl
    have hB3 := hbody (B + 1) pre x a' (X2.putObj (B + 1) (.loop (rec .busy none))) (Nat.le_succ _) ⟨_, loopOf hat3⟩ hi3 hax3 hlen
    have ends : ∀ (jump : Option Code) (Y : World), At .busy none Y → (Instr.endRound (B + 1) jump).run P Y = .ok (.bool jump.isNone) (Y.putObj (B + 1) (.loop (rec (if jump.isNone then .ready else .done) jump))) := fun jump Y hY => by
      have := run_endRound (P := P) jump (loopOf hY)
      rw [hrec] at this ⊢
      exact this
    rw [show ({ rec LoopState.ready none with state := LoopState.busy } : Loop) = rec .busy none by rw [hrec]]
    refine wpIn_mono hB3 ?_
    rintro e a3 Y hp
    have left : ∀ c : Code, KeepsFrom B (X2.putObj (B + 1) (.loop (rec .busy none))) Y → Ix c (pre ++ [x]) Y →
        ∃ W', (Instr.endRound (B + 1) (some c)).run P Y = .ok (.bool false) W' ∧ ∃ c', Ix c' (pre ++ [x]) W' ∧ At .done (some c') W' := fun c hk hx => by
      have hY := keepF hat3 hk
      exact ⟨_, ends (some c) Y hY, c, (hIx c).putObj _ hx (Nat.le_succ _) (loopOf hY) rfl, put .done (some c) hY⟩
    cases e with
    | normal =>
      obtain ⟨hk3, hkp3, hi4⟩ := hp
      have hY := keepF hat3 hk3
      exact ⟨_, _, ends none Y hY, .inl ⟨rfl, ⟨hI.putObj _ hi4 (Nat.le_succ _) (loopOf hY) rfl, put .ready none hY⟩, hKt hkp (hKt (hKt hkb hkp3) (hKb Y (B + 1) _ _ (Nat.le_succ _) (loopOf hY) rfl rfl))⟩⟩
    | ret =>
      obtain ⟨_, h1, h3⟩ := left .ret hp.1 hp.2
      exact ⟨_, _, h1, .inr ⟨rfl, h3⟩⟩
    | exit id =>
      obtain ⟨_, h1, h3⟩ := left (.exit id) hp.1 hp.2
      exact ⟨_, _, h1, .inr ⟨rfl, h3⟩⟩
    | goto t =>
      obtain ⟨_, h1, h3⟩ := left (.goto t) hp.1 hp.2
      exact ⟨_, _, h1, .inr ⟨rfl, h3⟩⟩
    | panic ch => exact hp.elim
    | outgrown => exact hp.elim
  · rintro e W2 ⟨⟨v, rfl⟩, (⟨xs, hS, hi, hat⟩ | ⟨pre, hSp, c, hi, hat⟩)⟩
    · exact ⟨none, _, by have := run_endLoop (P := P) (loopOf hat) (by rw [hrec]; simp); rw [hrec] at this; exact this, hdone _ xs _ (Nat.le_refl _) hS (hI.putObj _ hi (Nat.le_succ _) (loopOf hat) rfl) ((World.putObj_heap_other (by omega)).trans (defOf hat))⟩
    · exact ⟨some c, _, by have := run_endLoop (P := P) (loopOf hat) (by rw [hrec]; simp); rw [hrec] at this; exact this, hstop _ c pre _ (Nat.le_refl _) hSp ((hIx c).putObj _ hi (Nat.le_succ _) (loopOf hat) rfl) ((World.putObj_heap_other (by omega)).trans (defOf hat))⟩
end Go.Proofs.YtdojaighchgghaaDoor
