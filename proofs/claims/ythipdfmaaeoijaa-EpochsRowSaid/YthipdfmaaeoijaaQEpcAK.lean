/-
  Texts that belong together, merged: IterN, Frame, EpcI, EpcJ, EpcK, EpcE, EpcF. Conditions: as each theorem names them.
-/
import Derived.RangeFuncNested
import Derived.Test.YthipdfmaaeoijaaQEpcAA
import Derived.OpenShut
import Derived.Test.YthipdfmaaeoijaaQEpcAJ
import Derived.Test.YthipdfmaaeoijaaQEpcAB
section
namespace Go.Proofs.Ythipdfmaaeoijaa
open Go.RowKit
set_option linter.unusedVariables false

/-- The iterator's contract: J stands behind each round; it may say nothing that R turns. -/
def SeqN {α : Type} (F : Fence) (n : Nat) (P : Program) (g : Nat) (lb : Array Value) (encs : α → Array Value) (R Kp : World → World → Prop) (S Sp : List α → Prop) (Nx : List α → α → Prop) (w : World) : Prop :=
  ∀ (l : Nat) (J Jx : List α → World → Prop) (W : World), Below w.heap.size w W → AbidesFrom W.heap.size J → AbidesFrom W.heap.size Jx →
    (∀ s A B, J s A → R A B → J s B) → (∀ s A B, Jx s A → R A B → Jx s B) →
    (∀ pre x W1, J pre W1 → Nx pre x → YieldAt F (n - 1) P l (encs x) W1 fun e W' =>
      (e = .returned (.bool true) ∧ J (pre ++ [x]) W' ∧ Kp W1 W') ∨ (e = .returned (.bool false) ∧ Jx (pre ++ [x]) W')) →
    J [] W →
    CallsIn F n P g (#[.func (.yield l) #[] #[]] ++ lb) W fun e W' => (∃ v, e = .returned v) ∧ ((∃ xs, S xs ∧ J xs W') ∨ (∃ pre, Sp pre ∧ Jx pre W'))

variable {F : Fence} {n : Nat} {P : Program}

theorem wpIn_rangeFunc_N {α : Type} {g : Operand} {ps : Array Tmp} {assign body : Code} {Q : Exit → Act → World → Prop} {a : Act} {w : World}
    (hro : F.round = none) (h1 : 1 ≤ n) {gf : Nat} {lb : Array Value} (hg : a.eval g = .func (.func gf) #[] lb) (hFg : F.fn gf) (eg : ∀ args w, (callFunc gf args).run P w = .ok (.enter gf args) w)
    {encs : α → Array Value} {R Kp : World → World → Prop} {S Sp : List α → Prop} {Nx : List α → α → Prop} {w0 : World} (hseq : SeqN F (n - 1) P gf lb encs R Kp S Sp Nx w0)
    (hRk : ∀ A B, R A B → ∀ k o, w.heap.size ≤ k → A.heap[k]? = some o → o.isCells = false → B.heap[k]? = some o)
    (hKt : ∀ {A B C : World}, Kp A B → Kp B C → Kp A C) (hKb : ∀ (W : World) (l : Nat) (o o' : Obj), w.heap.size ≤ l → W.heap[l]? = some o → o.isCells = false → o.isWalk = false → Kp W (W.putObj l o')) (hb0 : Below w0.heap.size w0 w) (hps : ∀ x, (encs x).size = ps.size)
    (I : List α → World → Prop) (Ix : Code → List α → World → Prop) (hI : OwnFrom w.heap.size I) (hIx : ∀ c, OwnFrom w.heap.size (Ix c)) (hIR : ∀ s A B, I s A → R A B → I s B) (hIxR : ∀ c s A B, Ix c s A → R A B → Ix c s B) (h0 : I [] w)
    (Ax : α → Act → World → Prop) (hAx : ∀ x a', OwnFrom w.heap.size (fun (_ : Unit) W => Ax x a' W))
    (hassign : ∀ (l : Nat) (pre : List α) (x : α) (W : World) (K : Act → World → Prop), I pre W → (∀ a' W', KeepsFrom w.heap.size W W' → Kp W W' → I pre W' → Ax x a' W' → K a' W') →
      assign.wpIn (F.inRound l) (n - 1 - 1) P (Exit.then K (fun _ _ _ => False)) { tmps := (ps.zip (encs x)).foldl (fun t (p, v) => t.setIfInBounds p v) a.tmps, defers := [] } W)
    (hbody : ∀ (l : Nat) (pre : List α) (x : α) (a' : Act) (W : World), w.heap.size ≤ l → (∃ r, W.heap[l]? = some (.loop r)) → I pre W → Ax x a' W → Nx pre x → body.wpIn (F.inRound l) (n - 1 - 1) P (ownPostG w.heap.size Kp I Ix (pre ++ [x]) W) a' W)
    (hdone : ∀ (D : Nat) (xs : List α) (W : World), w.heap.size ≤ D → S xs → I xs W → W.heap[D]? = some (.deferred (some [])) → Q .normal { a with defers := { target := .collected D, args := #[] } :: a.defers } W)
    (hstop : ∀ (D : Nat) (c : Code) (pre : List α) (W : World), w.heap.size ≤ D → Sp pre → Ix c pre W → W.heap[D]? = some (.deferred (some [])) → c.wpIn F n P Q { a with defers := { target := .collected D, args := #[] } :: a.defers } W) :
    (Code.rangeFunc g ps assign body).wpIn F n P Q a w := by
  refine wpIn_rangeFunc fun fn hfn => ?_
  rw [hro]
  obtain ⟨B, hB⟩ : ∃ B, B = w.heap.size := ⟨_, rfl⟩
  obtain ⟨rec, hrec⟩ : ∃ rec : LoopState → Option Code → Loop, rec = fun st pe => { state := st, pending := pe, fn, tmps := a.tmps, params := ps, assign, body, defers := B } := ⟨_, rfl⟩
  obtain ⟨W1, hW1⟩ : ∃ W1, W1 = (w.alloc (.deferred (some []))).alloc (.loop (rec .ready none)) := ⟨_, rfl⟩
  have hD0 : W1.heap[B]? = some (.deferred (some [])) := by
    rw [hW1, hB]; exact (Below.heap_alloc _ _ _ (by simp)).trans (World.alloc_heap_new w _)
  have hL0 : W1.heap[B + 1]? = some (.loop (rec .ready none)) := by
    have := World.alloc_heap_new (w.alloc (.deferred (some []))) (.loop (rec .ready none)); rwa [World.size_alloc, ← hB, ← hW1] at this
  have hb1 : Below w.heap.size w W1 := by rw [hW1]; exact ((Below.refl _ w).alloc (Nat.le_refl _) _).alloc (by simp) _
  have hI0 : I [] W1 := by rw [hW1]; exact hI.alloc _ (hI.alloc _ h0)
  refine ⟨B + 1, [{ target := .collected B, args := #[] }], W1, { target := .fn (.func gf) lb, args := #[.func (.yield (B + 1)) #[] #[]] }, W1, gf, #[.func (.yield (B + 1)) #[] #[]] ++ lb, W1,
    by rw [hW1, hrec, hB]; exact run_enterLoop_outer _ _ _ _ _, by simp only [resolve, hg]; simp [go_sem], by intro f' hf'; simp [Target.leads] at hf'; subst hf'; exact hFg, by simp [invoke, go_sem, eg], fun _ => h1, ?_⟩
  have hWB : B + 2 ≤ W1.heap.size := by rw [hW1]; simp only [World.size_alloc]; omega
  clear hW1
  have hBle : w0.heap.size ≤ B := by rw [hB]; exact hb0.size
  have hsz : w.heap.size = B := hB.symm
  rw [hsz] at hI hRk hb1
  simp only [hsz] at hIx hKb hassign hbody hdone hstop hAx
  -- what the loop keeps of its own: its record in a state, and what it has deferred
  obtain ⟨At, hAt⟩ : ∃ At : LoopState → Option Code → World → Prop, At = fun st pe W => W.heap[B + 1]? = some (.loop (rec st pe)) ∧ W.heap[B]? = some (.deferred (some [])) := ⟨_, rfl⟩
  have keep : ∀ {st pe X Y} {row : Option Nat}, At st pe X → X.grownBy Y row → (∀ r, row = some r → W1.heap.size ≤ r ∧ ∃ o : Obj, X.heap[r]? = some o ∧ o.isWalk = true) → At st pe Y := by
    intro st pe X Y row hs hgr hr
    rw [hAt] at hs ⊢
    have far : ∀ k, k ≤ B + 1 → k < X.heap.size → Y.heap[k]? = X.heap[k]? := fun k hk hx => hgr.block k hx fun e => by have := (hr k e.symm).1; omega
    exact ⟨(far _ (Nat.le_refl _) (Array.getElem?_eq_some_iff.1 hs.1).1).trans hs.1, (far _ (Nat.le_succ _) (Array.getElem?_eq_some_iff.1 hs.2).1).trans hs.2⟩
  have keepR : ∀ {st pe X Y}, At st pe X → R X Y → At st pe Y := by
    intro st pe X Y hs hr
    rw [hAt] at hs ⊢
    exact ⟨hRk X Y hr _ _ (Nat.le_succ _) hs.1 rfl, hRk X Y hr _ _ (Nat.le_refl _) hs.2 rfl⟩
  have put : ∀ {st pe X} (st' : LoopState) (pe' : Option Code), At st pe X → At st' pe' (X.putObj (B + 1) (.loop (rec st' pe'))) := by
    intro st pe X st' pe' hs
    rw [hAt] at hs ⊢
    exact ⟨World.putObj_heap_same (Array.getElem?_eq_some_iff.1 hs.1).1, (World.putObj_heap_other (by omega)).trans hs.2⟩
  have keepF : ∀ {st pe X Y}, At st pe X → KeepsFrom B X Y → At st pe Y := by
    intro st pe X Y hs hk
    rw [hAt] at hs ⊢
    exact ⟨hk.same _ _ (Nat.le_succ _) hs.1 rfl, hk.same _ _ (Nat.le_refl _) hs.2 rfl⟩
  have loopOf : ∀ {st pe X}, At st pe X → X.heap[B + 1]? = some (.loop (rec st pe)) := fun hs => by rw [hAt] at hs; exact hs.1
  have defOf : ∀ {st pe X}, At st pe X → X.heap[B]? = some (.deferred (some [])) := fun hs => by rw [hAt] at hs; exact hs.2
  have at0 : At .ready none W1 := by rw [hAt]; exact ⟨hL0, hD0⟩
  have cells : ∀ {X Y : World} {row : Option Nat}, (∀ r, row = some r → W1.heap.size ≤ r ∧ ∃ o : Obj, X.heap[r]? = some o ∧ o.isWalk = true) → (∀ r, row = some r → B ≤ r ∧ ∃ o : Obj, X.heap[r]? = some o ∧ o.isCells = false) :=
    fun hr r e => by obtain ⟨hb, o, ho, hw⟩ := hr r e; exact ⟨by omega, o, ho, Obj.not_cells_of_walk hw⟩
  have hb01 : Below w0.heap.size w0 W1 := hb0.trans (hb1.mono hBle)
  clear hAt hL0 hD0
  refine (hseq (B + 1) (fun pre W => I pre W ∧ At .ready none W) (fun pre W => ∃ c, Ix c pre W ∧ At .done (some c) W) W1 hb01
    (fun s X Y row hs hgr hr => ⟨hI s X Y row hs.1 hgr (cells (Y := Y) hr), keep hs.2 hgr hr⟩)
    (fun s X Y row ⟨c, hs⟩ hgr hr => ⟨c, hIx c s X Y row hs.1 hgr (cells (Y := Y) hr), keep hs.2 hgr hr⟩)
    (fun s X Y hs hr => ⟨hIR s X Y hs.1 hr, keepR hs.2 hr⟩) (fun s X Y ⟨c, hs⟩ hr => ⟨c, hIxR c s X Y hs.1 hr, keepR hs.2 hr⟩) ?_ ⟨hI0, at0⟩).mono ?_
  · rintro pre x X ⟨hi, hat⟩ hlen
    have hy := run_yield (P := P) (args := encs x) (loopOf hat) (by rw [hrec]; exact hps x)
    rw [hrec] at hy
    refine ⟨fn, _, assign, body, hy, roundIn_of_wpIn hfn (hassign _ pre x X _ hi fun a' X2 hkf hkp hi2 hax => ?_)⟩
    have hat2 := keepF hat hkf
    refine ⟨_, run_beginRound (loopOf hat2) (by rw [hrec]), ?_⟩
    have hat3 := put .busy none hat2
    have hkb := hKb X2 (B + 1) _ (.loop (rec .busy none)) (Nat.le_succ _) (loopOf hat2) rfl rfl
    have hi3 := hI.putObj (.loop (rec .busy none)) hi2 (Nat.le_succ _) (loopOf hat2) rfl
    have hax3 := (hAx x a').putObj (s := ()) (.loop (rec .busy none)) hax (Nat.le_succ _) (loopOf hat2) rfl
    have hB3 := hbody (B + 1) pre x a' (X2.putObj (B + 1) (.loop (rec .busy none))) (Nat.le_succ _) ⟨_, loopOf hat3⟩ hi3 hax3 hlen
    have ends : ∀ (jump : Option Code) (Y : World), At .busy none Y → (Instr.endRound (B + 1) jump).run P Y = .ok (.bool jump.isNone) (Y.putObj (B + 1) (.loop (rec (if jump.isNone then .ready else .done) jump))) := fun jump Y hY => by
      have := run_endRound (P := P) jump (loopOf hY)
      rw [hrec] at this ⊢
      exact this
    rw [show ({ rec LoopState.ready none with state := LoopState.busy } : Loop) = rec .busy none by rw [hrec]]
    refine wpIn_mono hB3 ?_
    rintro e a3 Y hp
    have left : ∀ c : Code, KeepsFrom B (X2.putObj (B + 1) (.loop (rec .busy none))) Y → Ix c (pre ++ [x]) Y →
        ∃ W', (Instr.endRound (B + 1) (some c)).run P Y = .ok (.bool false) W' ∧ ∃ c', Ix c' (pre ++ [x]) W' ∧ At .done (some c') W' := fun c hk hx => by
      have hY := keepF hat3 hk
      exact ⟨_, ends (some c) Y hY, c, (hIx c).putObj _ hx (Nat.le_succ _) (loopOf hY) rfl, put .done (some c) hY⟩
    cases e with
    | normal =>
      obtain ⟨hk3, hkp3, hi4⟩ := hp
      have hY := keepF hat3 hk3
      exact ⟨_, _, ends none Y hY, .inl ⟨rfl, ⟨hI.putObj _ hi4 (Nat.le_succ _) (loopOf hY) rfl, put .ready none hY⟩, hKt hkp (hKt (hKt hkb hkp3) (hKb Y (B + 1) _ _ (Nat.le_succ _) (loopOf hY) rfl rfl))⟩⟩
    | ret =>
      obtain ⟨_, h1, h3⟩ := left .ret hp.1 hp.2
      exact ⟨_, _, h1, .inr ⟨rfl, h3⟩⟩
    | exit id =>
      obtain ⟨_, h1, h3⟩ := left (.exit id) hp.1 hp.2
      exact ⟨_, _, h1, .inr ⟨rfl, h3⟩⟩
    | goto t =>
      obtain ⟨_, h1, h3⟩ := left (.goto t) hp.1 hp.2
      exact ⟨_, _, h1, .inr ⟨rfl, h3⟩⟩
    | panic ch => exact hp.elim
    | outgrown => exact hp.elim
  · rintro e W2 ⟨⟨v, rfl⟩, (⟨xs, hS, hi, hat⟩ | ⟨pre, hSp, c, hi, hat⟩)⟩
    · exact ⟨none, _, by have := run_endLoop (P := P) (loopOf hat) (by rw [hrec]; simp); rw [hrec] at this; exact this, hdone _ xs _ (Nat.le_refl _) hS (hI.putObj _ hi (Nat.le_succ _) (loopOf hat) rfl) ((World.putObj_heap_other (by omega)).trans (defOf hat))⟩
    · exact ⟨some c, _, by have := run_endLoop (P := P) (loopOf hat) (by rw [hrec]; simp); rw [hrec] at this; exact this, hstop _ c pre _ (Nat.le_refl _) hSp ((hIx c).putObj _ hi (Nat.le_succ _) (loopOf hat) rfl) ((World.putObj_heap_other (by omega)).trans (defOf hat))⟩
end Go.Proofs.Ythipdfmaaeoijaa
end
section
namespace Go.Proofs.Ythipdfmaaeoijaa
open Go.RowKit

theorem u8_of_wf {n : Int} (h : (Lit.int .u8 n).wf = true) : ((UInt8.ofNat n.toNat).toNat : Int) = n := by
  have hb := bounds_u8 h
  rw [UInt8.toNat_ofNat_of_lt' (by simp [UInt8.size]; omega)]
  omega
theorem u64_of_wf {n : Int} (h : (Lit.int .u64 n).wf = true) : ∃ k : Nat, n = (k : Int) ∧ k < 18446744073709551616 := by
  have hb := bounds_u64 h
  exact ⟨n.toNat, by omega, by omega⟩
theorem i64_of_wf {n : Int} (h : (Lit.int .i64 n).wf = true) : -9223372036854775808 ≤ n ∧ n ≤ 9223372036854775807 := by
  have hb := bounds_i64 h
  omega

theorem bs_of_ints {w : World} {x : Addr} {len cap : Nat} {zs : List Int} (hl : len ≤ cap) (hm : cap ≤ maxLen) (hz : zs.length = cap)
    (hcell : ∀ i, i < zs.length → w.cell? (x.add i) = some (.int .u8 (zs.getD i 0))) (hwz : ∀ n ∈ zs, (Lit.int .u8 n).wf = true) :
    ∃ l, Bs w (.slice (some x) len cap) l := by
  have hlen : ((zs.take len).map fun n => UInt8.ofNat n.toNat).length = len := by simp; omega
  refine ⟨(zs.take len).map fun n => UInt8.ofNat n.toNat, some x, cap, by rw [hlen], by rw [hlen]; exact hl, hm, fun h0 => ?_⟩
  rw [hlen] at h0
  obtain ⟨b, off, spot⟩ := x
  have hc := hcell 0 (by omega)
  have hspot : spot = none := by simpa [Addr.add] using World.cell?_spot hc
  subst hspot
  refine ⟨b, off, rfl, fun j hj => ?_⟩
  rw [hlen] at hj
  have hadd : (⟨b, off, none⟩ : Addr).add j = ⟨b, off + j, none⟩ := by unfold Addr.add; split <;> simp_all
  have hcj := hcell j (by omega)
  rw [hadd] at hcj
  rw [hcj]
  have hj2 : j < zs.length := by omega
  simp only [List.getElem_map, List.getElem_take, List.getD_eq_getElem?_getD, List.getElem?_eq_getElem hj2, Option.getD_some]
  rw [u8_of_wf (hwz _ (List.getElem_mem hj2))]
end Go.Proofs.Ythipdfmaaeoijaa
end
section
namespace Go.Proofs.Ythipdfmaaeoijaa
open Go.RowKit Go.Shelf
attribute [local go_sem] Oper.semAt_some
set_option linter.unusedVariables false
set_option maxRecDepth 20000

set_option maxHeartbeats 400000 in
theorem keys_any (w : World) (mb : Option Nat) :
    Calls Try.prog 17 #[.map mb] w fun e w' => ∃ gs, e = .returned (.func (.func 23) #[] #[.pointer (some ⟨gs, 0, none⟩)]) ∧ Boxed w' gs 26 (.map mb) ∧ w.heap.size ≤ gs ∧ Below w.heap.size w w' := by
  go_enter Try.func17, Try.ntmps17
  go_wp2
  go_ret
  exact ⟨w.heap.size, rfl, Boxed.new w _ _, Nat.le_refl _, (Below.refl _ _).alloc (Nat.le_refl _) _⟩

set_option maxHeartbeats 2000000 in
theorem keys1_tells (n : Nat) (hn : 1 ≤ n) (gs g : Nat) (m : List (Nat × Value)) (w : World) (hb : Boxed w gs 26 (.map (some g))) (hm : MapIn .u32 w (some g) m) :
    SeqN Fence.wide n Try.prog 23 #[.pointer (some ⟨gs, 0, none⟩)]
      (fun x : Nat => #[.int .u32 (x : Int)]) (fun _ _ => False) KeepsWalks (fun xs => xs.Perm (m.map (·.1))) (fun _ => True) (fun pre x => pre.length < m.length) w := by
  intro l J Jx W hW hJ hJx _ _ hY h0
  have c0 : W.cell? ⟨gs, 0, none⟩ = some (.map (some g)) := (boxed_row hb (grown_of_below hW) (by simp)).cell
  obtain ⟨o, ho, hM⟩ := hm.kept hW
  have hgl : g < W.heap.size := (Array.getElem?_eq_some_iff.1 ho).1
  obtain ⟨hrun, hR0⟩ := RangeAt.start (P := Try.prog) (t := 26) ho hM Try.underlying26
  obtain ⟨r, hr⟩ : ∃ r, r = W.heap.size := ⟨_, rfl⟩
  have hJ1 := hJ [] W (W.alloc (.mapIter (some g) (clockOf o) #[] (clockOf o))) none h0 (World.grownBy_alloc W _ none) (fun r e => by cases e)
  rw [← hr] at hrun hR0 hJ
  obtain ⟨W1, hW1⟩ : ∃ W1, W1 = W.alloc (.mapIter (some g) (clockOf o) #[] (clockOf o)) := ⟨_, rfl⟩
  rw [← hW1] at hrun hR0 hJ1
  have hrg : r ≠ g := by omega
  have HY := Lib.hid hY
  have HJ := Lib.hid hJ
  have HJ1 := Lib.hid hJ1
  have HR0 := Lib.hid hR0
  clear hW1 hr hM ho hgl hW hJ hJx hY h0 hb hm hR0 hJ1
  refine callsIn_of_wp Try.func23 rfl trivial ?_ rfl
  simp only [Try.ntmps23, List.size_toArray, List.length_cons, List.length_nil, Nat.reduceAdd, Nat.reduceSub, Array.replicate_succ, Array.replicate_zero, List.push_toArray, List.append_toArray, List.nil_append, List.cons_append]
  gi_wp2
  clear c0 hrun
  gi_loopw [3] (fun _ wr => ∃ xs : List Nat, RangeAt .u32 wr r g m xs ∧ J xs wr) (fun _ wr => m.length - doneAt wr r)
  case atStart => exact ⟨[], HR0.out, HJ1.out⟩
  case round =>
    clear HR0 HJ1
    obtain ⟨xs, hRA, hJs⟩ := hrel
    rcases hRA.next (P := Try.prog) hrg with ⟨hp, hnx⟩ | ⟨x, v, w2, hnx, hen, hRA2, hg2, hlt⟩
    · have HP := Lib.hid hp
      have HJs := Lib.hid hJs
      clear hp hJs hRA
      gi_wp2
      go_end0
      exact ⟨⟨_, rfl⟩, .inl ⟨xs, HP.out, HJs.out⟩⟩
    · have hJ2 := HJ.out xs wr w2 (some r) hJs hg2 (fun r' e => by injection e with e; subst e; exact ⟨Nat.le_refl _, hRA.iter⟩)
      obtain ⟨fn, tmps, assign, body, hy, hR⟩ := HY.out xs x w2 hJ2 hlt
      have hd := hRA.done
      have HRA2 := Lib.hid hRA2
      have HD := Lib.hid hd
      have HLT := Lib.hid hlt
      clear hRA hRA2 hJs hJ2 hg2 hd hlt
      gi_wp2
      refine hR.mono ?_
      rintro e W3 (⟨rfl, hJ3, hk3⟩ | ⟨rfl, hJx3⟩)
      · have HR3 := Lib.hid (HRA2.out.walks hk3)
        have HJ4 := Lib.hid hJ3
        clear hJ3 hk3
        gi_wp2
        go_roundw
        case rel => exact ⟨xs ++ [x], HR3.out, HJ4.out⟩
        case measure =>
          rw [HR3.out.done, HD.out, List.length_append, List.length_singleton]
          have := HLT.out
          omega
      · have HJ4 := Lib.hid hJx3
        clear hJx3
        gi_wp2
        refine bodyPost_ret (results_none rfl _ _ _) rfl ?_
        exact ⟨⟨_, rfl⟩, .inr ⟨_, trivial, HJ4.out⟩⟩

set_option maxHeartbeats 2000000 in
/-- Of no map none. -/
theorem keys1_none (n : Nat) (hn : 1 ≤ n) (gs : Nat) (w : World) (hb : Boxed w gs 26 (.map none)) :
    SeqN Fence.wide n Try.prog 23 #[.pointer (some ⟨gs, 0, none⟩)]
      (fun x : Nat => #[.int .u32 (x : Int)]) (fun _ _ => False) KeepsWalks (fun xs => xs.Perm []) (fun _ => True) (fun pre x => pre.length < 0) w := by
  intro l J Jx W hW hJ hJx _ _ hY h0
  have c0 : W.cell? ⟨gs, 0, none⟩ = some (.map none) := (boxed_row hb (grown_of_below hW) (by simp)).cell
  have hrun := run_range_nilMap (P := Try.prog) W 26 _ _ Try.underlying26
  have hJ1 := hJ [] W (W.alloc (.mapIter none 0 #[] 0)) none h0 (World.grownBy_alloc W _ none) (fun r e => by cases e)
  have hnx : ∀ ty, (Instr.next (.pointer (some ⟨W.heap.size, 0, none⟩)) false ty).run Try.prog (W.alloc (.mapIter none 0 #[] 0)) = .ok (.tuple #[.bool false]) (W.alloc (.mapIter none 0 #[] 0)) := fun ty => run_next_nilMap W ty 0 0 #[]
  obtain ⟨r, hr⟩ : ∃ r, r = W.heap.size := ⟨_, rfl⟩
  obtain ⟨W1, hW1⟩ : ∃ W1, W1 = W.alloc (.mapIter none 0 #[] 0) := ⟨_, rfl⟩
  rw [← hr] at hrun hnx
  rw [← hW1] at hrun hJ1 hnx
  have HJ1 := Lib.hid hJ1
  clear hW1 hr hW hJ hJx hY h0 hb hJ1
  refine callsIn_of_wp Try.func23 rfl trivial ?_ rfl
  simp only [Try.ntmps23, List.size_toArray, List.length_cons, List.length_nil, Nat.reduceAdd, Nat.reduceSub, Array.replicate_succ, Array.replicate_zero, List.push_toArray, List.append_toArray, List.nil_append, List.cons_append]
  gi_wp2
  clear c0 hrun
  gi_loopw [3] (fun _ wr => wr = W1) (fun _ wr => 0)
  case atStart => rfl
  case round =>
    subst hrel
    gi_wp2
    go_end0
    exact ⟨⟨_, rfl⟩, .inl ⟨[], List.Perm.refl _, HJ1.out⟩⟩
end Go.Proofs.Ythipdfmaaeoijaa
end
section
namespace Go.Proofs.Ythipdfmaaeoijaa
open Go.RowKit Go.Shelf
attribute [local go_sem] Oper.semAt_some
set_option linter.unusedVariables false
set_option maxRecDepth 20000

theorem Try.infoU32 : (Try.prog.info? 22).map (fun i => (i.zero, i.size, i.bytes)) = some (some (.int .u32 0), 1, 4) := by kernel_rfl
theorem wp_appU {w : World} {o : Oper} {a : Act} {K : Act → World → Prop} {Q : Exit → Act → World → Prop} (s x : Operand)
    (ho : o.op = .call { callee := .builtin .append, args := #[s, x], argTypes := #[42, 42] }) (base : Nat) (v : Value) (l : List Nat) (y b c : Nat) (hs : a.eval s = v) (hx : a.eval x = .slice (some ⟨b, 0, none⟩) 1 c)
    (hy : w.cell? ⟨b, 0, none⟩ = some (.int .u32 (y : Int))) (hown : OwnU w base v l) (hlen : l.length ≤ 1000000) (hb : base ≤ w.heap.size)
    (h : ∀ v' w', OwnU w' base v' (l ++ [y]) → w.grownBy w' v.ownBlock → K (a.put o.dst v') w') : o.wp Try.prog a w K Q := by
  obtain ⟨i, hi, hz0, hz1, hz2⟩ := info_parts Try.infoU32
  refine wp_append_own w s x 42 ho base 22 i (.int .u32 0) 1 4 Try.underlying42 hi hz0 hz1 hz2 rfl (by decide) v l.length (cellsU l) hs hown ⟨b, 0, none⟩ 1 c [.int .u32 (y : Int)] hx rfl (fun j u hj => ?_) (fun u hu => ?_)
    (by simp only [maxLen]; omega) (by omega) hb fun v' w' h2 h3 _ => h v' w' ?_ h3
  · cases j with
    | zero =>
      have e : some (Value.int .u32 (y : Int)) = some u := hj
      rw [← e]
      exact hy
    | succ j => cases hj
  · obtain rfl : u = .int .u32 (y : Int) := by simpa using hu
    rfl
  · show w'.ownsRow base 22 1 v' (l ++ [y]).length (cellsU (l ++ [y]))
    rw [cellsU_append, List.length_append]
    exact h2
theorem OwnU.nil (w : World) (base : Nat) : OwnU w base (.slice none 0 0) [] := World.ownsRow_nil _ _ _ _
theorem OwnU.grown {w w' : World} {base : Nat} {v : Value} {l : List Nat} {row : Option Nat} (h : OwnU w base v l) (hg : w.grownBy w' row) (hr : ∀ r, row = some r → ∃ o : Obj, w.heap[r]? = some o ∧ o.isCells = false) : OwnU w' base v l := by
  obtain ⟨h1, h2⟩ := h
  refine ⟨h1, h2.imp id fun ⟨g, cap, cur, hv, hb1, hc, h3⟩ => ⟨g, cap, cur, hv, hb1, (hg.block g (Array.getElem?_eq_some_iff.1 hc).1 fun e => ?_).trans hc, h3⟩⟩
  obtain ⟨o, ho, hco⟩ := hr g e.symm
  rw [hc] at ho
  cases ho
  cases hco
theorem OwnU.spot {w : World} {base : Nat} {v : Value} {l : List Nat} (h : OwnU w base v l) {k : Nat} (hk : v.ownBlock = some k) : base ≤ k ∧ ∃ cur, w.heap[k]? = some (.cells cur 22 (0, 0)) := by
  rcases h.2 with ⟨rfl, _⟩ | ⟨g, cap, cur, rfl, hb, hg, _⟩
  · cases hk
  · obtain rfl : g = k := by simpa [Value.ownBlock] using hk
    exact ⟨hb, cur, hg⟩
theorem OwnU.other {w : World} {base : Nat} {v : Value} {l : List Nat} (h : OwnU w base v l) {g : Nat} {t : TypeId} {cs : Array Value} (hg : w.heap[g]? = some (.cells cs t (0, 0))) (hne : t ≠ 22) : some g ≠ v.ownBlock := fun e => by
  obtain ⟨_, cur, hc⟩ := h.spot e.symm
  rw [hg] at hc
  cases hc
  exact hne rfl
theorem OwnU.shape {w : World} {base : Nat} {v : Value} {l : List Nat} (h : OwnU w base v l) : ∃ A c, v = .slice A l.length c := by
  rcases h.2 with ⟨rfl, h0⟩ | ⟨g, cap, cur, rfl, _⟩
  · exact ⟨none, 0, by rw [h0]⟩
  · exact ⟨_, _, rfl⟩
theorem OwnU.mono {w : World} {base base' : Nat} {v : Value} {l : List Nat} (h : OwnU w base v l) (hb : base' ≤ base) : OwnU w base' v l :=
  ⟨h.1, h.2.imp id fun ⟨g, cap, cur, hv, hb1, h3⟩ => ⟨g, cap, cur, hv, Nat.le_trans hb hb1, h3⟩⟩
theorem OwnU.kept {w w' : World} {base : Nat} {v : Value} {l : List Nat} {row : Option Nat} (h : OwnU w base v l) (hg : w.grownBy w' row) (hr : v.ownBlock = none ∨ row ≠ v.ownBlock) : OwnU w' base v l := by
  obtain ⟨h1, h2⟩ := h
  refine ⟨h1, h2.imp id fun ⟨g, cap, cur, hv, hb1, hc, h3⟩ => ⟨g, cap, cur, hv, hb1, (hg.block g (Array.getElem?_eq_some_iff.1 hc).1 fun e => ?_).trans hc, h3⟩⟩
  subst hv
  rcases hr with hr | hr
  · cases hr
  · exact hr e.symm

set_option maxHeartbeats 2000000 in
theorem appendSeq_any (w : World) (gs N : Nat) (S : List Nat → Prop) (hN : N ≤ 1000)
    (hseq : SeqN Fence.wide 2 Try.prog 23 #[.pointer (some ⟨gs, 0, none⟩)] (fun x : Nat => #[.int .u32 (x : Int)]) (fun _ _ => False) KeepsWalks S (fun _ => True) (fun pre x => pre.length < N) w) :
    Calls Try.prog 30 #[.slice none 0 0, .func (.func 23) #[] #[.pointer (some ⟨gs, 0, none⟩)]] w fun e w' => ∃ v xs, e = .returned v ∧ S xs ∧ OwnU w' w.heap.size v xs ∧ Below w.heap.size w w' := by
  have HS := Lib.hid hseq
  clear hseq
  refine (callsIn_wide (n := 3)).1 ?_
  refine callsIn_of_wp_marks Try.func30 rfl trivial ?_ rfl
  simp only [Try.ntmps30, List.size_toArray, List.length_cons, List.length_nil, Nat.reduceAdd, Nat.reduceSub, Array.replicate_succ, Array.replicate_zero, List.push_toArray, List.append_toArray, List.nil_append, List.cons_append]
  refine wpIn_wide.2 ?_
  go_wp2_with fail
  obtain ⟨gO, hgO⟩ : ∃ gO, gO = w.heap.size := ⟨_, rfl⟩
  obtain ⟨w2, hw2⟩ : ∃ w2, w2 = w.alloc (.cells #[.slice none 0 0] 42) := ⟨_, rfl⟩
  have BO2 : Hid (Boxed w2 gO 42 (.slice none 0 0)) := by show Boxed _ _ _ _; rw [hw2, hgO]; exact Boxed.new w _ _
  have B2 : Hid (Below w.heap.size w w2) := by show Below _ _ _; rw [hw2]; exact (Below.refl _ _).alloc (Nat.le_refl _) _
  have hgw : Hid (w.heap.size ≤ gO) := by show _ ≤ _; rw [hgO]; exact Nat.le_refl _
  rw [← hw2, ← hgO]
  clear hw2 hgO
  refine (wpIn_wide (n := 3)).1 ?_
  refine wpIn_rangeFunc_N (F := Fence.wide) rfl (by omega) (gf := 23) (lb := #[.pointer (some ⟨gs, 0, none⟩)]) rfl trivial (enters_of Try.func23 (by kernel_rfl) rfl)
    HS.out (fun _ _ h => h.elim) KeepsWalks.trans walksK_b B2.out (fun _ => rfl)
    (fun pre W => ∃ v, (Boxed W gO 42 v ∧ Below w.heap.size w W) ∧ OwnU W w.heap.size v pre)
    (fun _ _ _ => False)
    ?hI
    (fun _ _ _ _ _ hs _ _ => hs) (fun _ _ _ _ h => h.elim) (fun _ _ _ _ _ h => h.elim)
    ⟨_, ⟨BO2.out, B2.out⟩, OwnU.nil _ _⟩
    (fun x a' W => a' = { tmps := #[.slice none 0 0, .func (.func 23) #[] #[.pointer (some ⟨gs, 0, none⟩)], .pointer (some ⟨gO, 0, none⟩), undef, .slice none 0 0, .int .u32 (x : Int), .func (.func 23) #[] #[.pointer (some ⟨gs, 0, none⟩)], .int .u32 (x : Int), undef, undef, undef, undef, undef], defers := [] })
    (fun x a' _ X Y row hs hg hr => hs)
    ?assign ?body ?done ?stop
  case hI =>
    rintro s X Y row ⟨v, ⟨i1, i2⟩, i3⟩ hg hr
    have hO := BO2.out.lt
    have hne : ∀ k, k < w2.heap.size → some k ≠ row := fun k hk e => by have := (hr k e.symm).1; omega
    exact ⟨v, ⟨i1.kept hg (hne gO hO), ownFrom_below (β := Unit) (Nat.le_refl _) B2.out.size () X Y row i2 hg hr⟩, i3.grown hg (fun r e => (hr r e).2)⟩
  case assign =>
    rintro lo pre x W K hI hK
    gi_wp2
    exact hK _ _ ((KeepsOthers.of_below (Below.refl _ _)).from _) (KeepsWalks.refl _) hI rfl
  case body =>
    rintro lo pre x a' W hlo hrec ⟨v, ⟨hO, hB⟩, hW⟩ rfl hxn
    have c2 := hO.cell
    have HO := Lib.hid hO
    have HB := Lib.hid hB
    have HW := Lib.hid hW
    obtain ⟨VA, vc, rfl⟩ := hW.shape
    have hxl : pre.length ≤ 1000000 := by omega
    have HXL := Lib.hid hxl
    obtain ⟨L, hL⟩ : ∃ L, L = pre.length := ⟨_, rfl⟩
    rw [← hL] at HW HO c2
    clear hO hB hW hrec hxn hxl hL
    have hcell : (W.alloc (.cells #[.int .u32 (x : Int)] 22)).cell? ⟨W.heap.size, 0, none⟩ = some (.int .u32 (x : Int)) := (Boxed.new W 22 (.int .u32 (x : Int))).cell
    have hO1 : Boxed (W.alloc (.cells #[.int .u32 (x : Int)] 22)) gO 42 (.slice VA L vc) := HO.out.kept (World.grownBy_alloc W _ none) (by simp)
    have O1 := Lib.hid hO1
    have hW1 := HW.out.below ((Below.refl W.heap.size W).alloc (Nat.le_refl _) (.cells #[.int .u32 (x : Int)] 22))
    have W1_ := Lib.hid hW1
    have hB1 := HB.out.alloc HB.out.size (.cells #[.int .u32 (x : Int)] 22)
    have B1 := Lib.hid hB1
    have hKW := KeepsWalks.alloc W (.cells #[.int .u32 (x : Int)] 22)
    have KW := Lib.hid hKW
    have HBL := Lib.hid ((Below.refl W.heap.size W).alloc (Nat.le_refl _) (.cells #[.int .u32 (x : Int)] 22))
    have hwg := hgw.out
    clear hO1 hW1 hB1 hKW
    gi_wp2_with ((with_reducible refine list_round (o := ⟨some 11, _, _, _, _, _⟩) rfl (fun c hc => by cases hc) fun KK hKK => wp_appU (.tmp 8) (.tmp 10) rfl w.heap.size (.slice VA L vc) pre x W.heap.size 1 (by with_unfolding_all rfl) (by with_unfolding_all rfl) hcell W1_.out HXL.out B1.out.size ?_); intro v' W2 o2 g2; refine hKK _ _ ?_; clear hKK KK hcell; have hne := W1_.out.other (show (W.alloc (.cells #[.int .u32 (x : Int)] 22)).heap[gO]? = _ from O1.out) (by decide); have O2 := Lib.hid (O1.out.kept g2 hne); have c3 := O2.out.cell; have f3 := O2.out.frozen; have G2 := Lib.hid g2; have W2_ := Lib.hid o2; obtain ⟨VB, vd, hvd⟩ := o2.shape; obtain ⟨L2, hL2⟩ : ∃ L2, L2 = (pre ++ [x]).length := ⟨_, rfl⟩; rw [← hL2] at hvd; subst hvd; clear hL2 o2 g2)
    have hgs2 := grownBy_setCell' W2 gO (.slice VB L2 vd)
    have hko : KeepsOthers (W.alloc (.cells #[.int .u32 (x : Int)] 22)) W2 := KeepsOthers.of_grownBy G2.out (fun j o ej hj => by
      obtain ⟨_, cur, hc⟩ := W1_.out.spot ej
      rw [hj] at hc
      cases hc
      rfl)
    have hkw : KeepsWalks (W.alloc (.cells #[.int .u32 (x : Int)] 22)) W2 := KeepsWalks.of_grownBy G2.out (fun j o ej hj => by
      obtain ⟨_, cur, hc⟩ := W1_.out.spot ej
      rw [hj] at hc
      cases hc
      rfl)
    refine ⟨(((KeepsOthers.of_below HBL.out).trans hko).trans (KeepsOthers.setCell _ _ _)).from _, (KW.out.trans hkw).trans (KeepsWalks.setCell _ _ _), _, ⟨O2.out.set _, ?_⟩, ?_⟩
    · exact (B1.out.grown G2.out B1.out.size (fun k hk => (W1_.out.spot hk).1)).setCell (by show w.heap.size ≤ gO; exact hwg) _
    · exact OwnU.kept W2_.out hgs2 (.inr fun e => W2_.out.other (show W2.heap[gO]? = _ from O2.out) (by decide) e)
  case done =>
    rintro D xs W hD hS ⟨v, ⟨hO, hB⟩, hW⟩ hK
    have HSX := Lib.hid hS
    have HW := Lib.hid hW
    have HB := Lib.hid hB
    have HKD := Lib.hid hK
    obtain ⟨VA, vc, hv⟩ := hW.shape
    obtain ⟨L, hL⟩ : ∃ L, L = xs.length := ⟨_, rfl⟩
    rw [← hL] at hv
    subst hv
    have c1 := hO.cell
    clear hW hB hO hS hL
    go_wp2
    refine ⟨by simp, .inl ⟨_, _, rfl, run_takeDeferred hK, ?_⟩⟩
    have hD2 : ∀ r, some D = some r → ∃ o : Obj, W.heap[r]? = some o ∧ o.isCells = false := by
      rintro r e
      cases e
      exact ⟨_, HKD.out, rfl⟩
    exact ⟨_, results_tmp rfl _ _ _, .slice VA L vc, xs, rfl, HSX.out, HW.out.grown (grownBy_putObj' W D _) hD2, HB.out.trans (belowK_b (w := w) (Nat.le_refl _) W D _ _ (by have := B2.out.size; omega) hK rfl rfl)⟩
  case stop =>
    rintro D c pre W _ _ h _
    exact h.elim
end Go.Proofs.Ythipdfmaaeoijaa
end
section
namespace Go.Proofs.Ythipdfmaaeoijaa
open Go.RowKit Go.Shelf
set_option linter.unusedVariables false
set_option maxRecDepth 20000

/-- What maps.Keys hands back tells the keys. -/
theorem keys_seq (n : Nat) (hn : 1 ≤ n) (gs : Nat) (mb : Option Nat) (m : List (Nat × Value)) (w : World) (hb : Boxed w gs 26 (.map mb)) (hm : MapIn .u32 w mb m) :
    SeqN Fence.wide n Try.prog 23 #[.pointer (some ⟨gs, 0, none⟩)]
      (fun x : Nat => #[.int .u32 (x : Int)]) (fun _ _ => False) KeepsWalks (fun xs => xs.Perm (m.map (·.1))) (fun _ => True) (fun pre x => pre.length < m.length) w := by
  cases mb with
  | none =>
    have h0 : m = [] := hm
    subst h0
    exact keys1_none n hn gs w hb
  | some g => exact keys1_tells n hn gs g m w hb hm

theorem collect_any (w : World) (gs N : Nat) (S : List Nat → Prop) (hN : N ≤ 1000)
    (hseq : SeqN Fence.wide 2 Try.prog 23 #[.pointer (some ⟨gs, 0, none⟩)] (fun x : Nat => #[.int .u32 (x : Int)]) (fun _ _ => False) KeepsWalks S (fun _ => True) (fun pre x => pre.length < N) w) :
    Calls Try.prog 21 #[.func (.func 23) #[] #[.pointer (some ⟨gs, 0, none⟩)]] w fun e w' => ∃ v xs, e = .returned v ∧ S xs ∧ OwnU w' w.heap.size v xs ∧ Below w.heap.size w w' := by
  have H := Lib.hid (appendSeq_any w gs N S hN hseq)
  clear hseq
  go_enter Try.func21, Try.ntmps21
  go_wp2_with fail
  refine H.out.mono ?_
  rintro e w' ⟨v, xs, rfl, hS, hO, hB⟩
  have HS := Lib.hid hS
  have HO := Lib.hid hO
  have HB := Lib.hid hB
  obtain ⟨VA, vc, hv⟩ := hO.shape
  obtain ⟨L, hL⟩ : ∃ L, L = xs.length := ⟨_, rfl⟩
  rw [← hL] at hv
  subst hv
  clear hS hO hB hL H
  go_wp2
  go_ret
  exact ⟨_, xs, rfl, HS.out, HO.out, HB.out⟩

theorem sorted_keys (w : World) (gs : Nat) (mb : Option Nat) (m : List (Nat × Value)) (hb : Boxed w gs 26 (.map mb)) (hm : MapIn .u32 w mb m) (hl : m.length ≤ 12) :
    Calls Try.prog 16 #[.func (.func 23) #[] #[.pointer (some ⟨gs, 0, none⟩)]] w fun e w' => ∃ v s, e = .returned v ∧ (s.Perm (m.map (·.1)) ∧ s.Pairwise (· ≤ ·)) ∧ OwnU w' w.heap.size v s ∧ Below w.heap.size w w' := by
  have H := Lib.hid (collect_any w gs m.length _ (by omega) (keys_seq 2 (by omega) gs mb m w hb hm))
  have HL := Lib.hid hl
  clear hb hm hl
  go_enter Try.func16, Try.ntmps16
  go_wp2_with fail
  refine H.out.mono ?_
  rintro e w1 ⟨v, xs, rfl, hS, hO, hB⟩
  have hlx : xs.length ≤ 12 := by have := hS.length_eq; rw [List.length_map] at this; have := HL.out; omega
  have HC := Lib.hid (sort_any w1 w.heap.size v xs hO hlx)
  have HS := Lib.hid hS
  have HO := Lib.hid hO
  have HB := Lib.hid hB
  obtain ⟨VA, vc, hv⟩ := hO.shape
  obtain ⟨L, hL⟩ : ∃ L, L = xs.length := ⟨_, rfl⟩
  rw [← hL] at hv
  subst hv
  clear hS hO hB hL H hlx
  go_wp2_with fail
  refine HC.out.mono ?_
  rintro e w2 ⟨rfl, s, p1, p2, hO2, hg⟩
  have HS2 := Lib.hid (p1.trans HS.out)
  have HP2 := Lib.hid p2
  have HO2 := Lib.hid hO2
  have HB2 := Lib.hid (HB.out.grown hg HB.out.size (fun k hk => (HO.out.spot hk).1))
  clear p1 p2 hO2 hg HC HS HO HB
  go_wp2
  go_ret
  exact ⟨_, s, rfl, ⟨HS2.out, HP2.out⟩, HO2.out, HB2.out⟩

/-- A table's numbers, rising. -/
theorem ids_any (w : World) (b k : Nat) (mb : Option Nat) (m : List (Nat × Value)) (hc : w.cell? ⟨b, k, none⟩ = some (.map mb)) (hm : MapIn .u32 w mb m) (hl : m.length ≤ 12) :
    Calls Try.prog 12 #[.pointer (some ⟨b, k, none⟩)] w fun e w' => ∃ v s, e = .returned v ∧ (s.Perm (m.map (·.1)) ∧ s.Pairwise (· ≤ ·)) ∧ OwnU w' w.heap.size v s ∧ Below w.heap.size w w' := by
  have HM := Lib.hid hm
  clear hm
  go_enter Try.func12, Try.ntmps12
  go_wp2_with fail
  refine (keys_any _ mb).mono ?_
  rintro e w1 ⟨gs, rfl, hb1, _, hB1⟩
  have H := Lib.hid (sorted_keys w1 gs mb m hb1 (HM.out.kept hB1) hl)
  have HB1 := Lib.hid hB1
  clear hb1 hB1 HM hc hl
  go_wp2_with fail
  refine H.out.mono ?_
  rintro e w2 ⟨v, s, rfl, hs, hO, hB⟩
  have HS := Lib.hid hs
  have HO := Lib.hid (hO.mono HB1.out.size)
  have HB := Lib.hid (below_size HB1.out hB)
  obtain ⟨VA, vc, hv⟩ := hO.shape
  obtain ⟨L, hL⟩ : ∃ L, L = s.length := ⟨_, rfl⟩
  rw [← hL] at hv
  subst hv
  clear hs hO hB hL H
  go_wp2
  go_ret
  exact ⟨_, s, rfl, HS.out, HO.out, HB.out⟩
end Go.Proofs.Ythipdfmaaeoijaa
end
section
namespace Go.Proofs.Ythipdfmaaeoijaa
open Go.RowKit
set_option linter.unusedVariables false
set_option maxRecDepth 20000

theorem ep_split {x : Nat} : ∀ {l : List Ep}, (l.map (·.id)).Nodup → x ∈ l.map (·.id) → ∃ (l1 : List Ep) (e : Ep) (l2 : List Ep), l = l1 ++ e :: l2 ∧ e.id = x ∧ (∀ y ∈ l1, y.id ≠ x) ∧ ∀ y ∈ l2, y.id ≠ x
  | e :: l, hn, hx => by
    obtain ⟨h1, h2⟩ := List.nodup_cons.1 hn
    by_cases he : e.id = x
    · refine ⟨[], e, l, rfl, he, by simp, fun y hy e1 => h1 (List.mem_map.2 ⟨y, hy, e1.trans he.symm⟩)⟩
    · have hx' : x ∈ l.map (·.id) := by
        rcases List.mem_cons.1 hx with h | h
        · exact absurd h.symm he
        · exact h
      obtain ⟨l1, e', l2, h3, h4, h5, h6⟩ := ep_split h2 hx'
      refine ⟨e :: l1, e', l2, by rw [h3]; rfl, h4, fun y hy => ?_, h6⟩
      rcases List.mem_cons.1 hy with rfl | hy
      · exact he
      · exact h5 y hy
theorem drop_mid {x : Nat} {e : Ep} (he : e.id = x) (l2 : List Ep) : ∀ l1 : List Ep, (∀ y ∈ l1, y.id ≠ x) → dropV x (epsM (l1 ++ e :: l2)) = epsM (l1 ++ l2)
  | [], _ => by
    show dropV x ((e.id, _) :: epsM l2) = epsM l2
    unfold dropV
    rw [if_pos he.symm]
  | y :: l1, h => by
    show dropV x ((y.id, _) :: epsM (l1 ++ e :: l2)) = (y.id, _) :: epsM (l1 ++ l2)
    rw [dropV, if_neg (fun e1 => h y List.mem_cons_self e1.symm), drop_mid he l2 l1 fun z hz => h z (List.mem_cons_of_mem _ hz)]
theorem find_mid {x : Nat} {e : Ep} (he : e.id = x) (l2 : List Ep) : ∀ l1 : List Ep, (∀ y ∈ l1, y.id ≠ x) → findV x (epsM (l1 ++ e :: l2)) = some (.pointer (some ⟨e.blk, 0, none⟩))
  | [], _ => by
    show findV x ((e.id, _) :: epsM l2) = _
    rw [findV, if_pos he.symm]
  | y :: l1, h => by
    show findV x ((y.id, _) :: epsM (l1 ++ e :: l2)) = _
    rw [findV, if_neg (fun e1 => h y List.mem_cons_self e1.symm), find_mid he l2 l1 fun z hz => h z (List.mem_cons_of_mem _ hz)]
theorem filter_mid {x : Nat} {e : Ep} (he : e.id = x) {l1 l2 : List Ep} (h1 : ∀ y ∈ l1, y.id ≠ x) (h2 : ∀ y ∈ l2, y.id ≠ x) : (l1 ++ e :: l2).filter (fun y => !(y.id == x)) = l1 ++ l2 := by
  rw [List.filter_append, List.filter_cons_of_neg (by simp [he]), List.filter_eq_self.2 fun y hy => by simp [h1 y hy], List.filter_eq_self.2 fun y hy => by simp [h2 y hy]]
/-- Is one erased? -/
def dead (below last id : Nat) : Bool := decide (id < below) && !(id == last)
/-- What is left of l when the numbers s have been looked at. -/
def leftE (below last : Nat) (s : List Nat) (l : List Ep) : List Ep := l.filter fun e => !(s.contains e.id && dead below last e.id)
theorem leftE_nil (below last : Nat) (l : List Ep) : leftE below last [] l = l := List.filter_eq_self.2 fun e _ => by simp
theorem leftE_dead {below last x : Nat} (hd : dead below last x = true) (s : List Nat) (l : List Ep) : leftE below last (s ++ [x]) l = (leftE below last s l).filter fun y => !(y.id == x) := by
  unfold leftE
  rw [List.filter_filter]
  refine List.filter_congr fun e _ => ?_
  by_cases he : e.id = x
  · subst he
    simp [hd]
  · simp [he]
theorem leftE_live {below last x : Nat} (hd : dead below last x = false) (s : List Nat) (l : List Ep) : leftE below last (s ++ [x]) l = leftE below last s l := by
  unfold leftE
  refine List.filter_congr fun e _ => ?_
  by_cases he : e.id = x
  · subst he
    simp [hd]
  · simp [he]
theorem leftE_all {below last : Nat} {s : List Nat} {l : List Ep} (h : s.Perm (l.map (·.id))) : leftE below last s l = l.filter fun e => !dead below last e.id := by
  unfold leftE
  refine List.filter_congr fun e he => ?_
  have : e.id ∈ s := h.mem_iff.2 (List.mem_map.2 ⟨e, he, rfl⟩)
  simp [this]
theorem leftE_nodup {below last : Nat} {s : List Nat} {l : List Ep} (h : (l.map (·.id)).Nodup) : ((leftE below last s l).map (·.id)).Nodup := List.Nodup.sublist (List.filter_sublist.map _) h
theorem leftE_has {below last x : Nat} {s : List Nat} {l : List Ep} (hx : x ∈ l.map (·.id)) (hs : x ∉ s) : x ∈ (leftE below last s l).map (·.id) := by
  obtain ⟨e, he, rfl⟩ := List.mem_map.1 hx
  refine List.mem_map.2 ⟨e, ?_, rfl⟩
  unfold leftE
  rw [List.mem_filter]
  exact ⟨he, by simp [hs]⟩

section
variable {w0 w : World} {ms : List (Nat × IntKind × List (Nat × Value))} {rs : List (Nat × TypeId × Array Value)} {b k last : Nat} {t : TypeId} {cs : Array Value} {mb : Option Nat} {l : List Ep}
set_option maxHeartbeats 4000000 in
theorem erase_any (hT : TabS w0 ms rs b t cs k mb l last w) (below : Nat) (hl : l.length ≤ 12) (hn : (l.map (·.id)).Nodup) :
    Calls Try.prog 8 #[.pointer (some ⟨b, k, none⟩), .int .u32 (below : Int)] w fun e w' =>
      e = .returned (.int .i64 ((l.length - (l.filter fun e => !dead below last e.id).length : Nat) : Int)) ∧ TabS w0 ms rs b t cs k mb (l.filter fun e => !dead below last e.id) last w' := by
  have HT := Lib.hid hT
  have HN := Lib.hid hn
  have HL := Lib.hid hl
  have HI := Lib.hid (ids_any w b k mb (epsM l) hT.tabW.cellM hT.tabW.map (by rw [epsM_length]; exact hl))
  clear hT hn hl
  go_enter Try.func8, Try.ntmps8
  go_wp2_with fail
  refine HI.out.mono ?_
  rintro e w1 ⟨v, s, rfl, ⟨hp, hs⟩, hO, hB⟩
  rw [epsM_keys] at hp
  have hsl : s.length = l.length := by rw [hp.length_eq, List.length_map]
  have HP := Lib.hid hp
  have HO := Lib.hid hO
  have HB := Lib.hid hB
  have HSL := Lib.hid hsl
  have HTw := Lib.hid (HT.out.call hB)
  obtain ⟨A, c, hv⟩ := hO.shape
  obtain ⟨N, hNN⟩ : ∃ N, N = s.length := ⟨_, rfl⟩
  rw [← hNN] at hv
  have HNN := Lib.hid hNN
  subst hv
  clear hp hs hO hB hsl hNN HI
  go_wp2
  go_loopw [5, 11] (fun n i wr => ∃ (m j : Nat), n = .int .i64 (m : Int) ∧ i = .int .i64 (j : Int) ∧ j ≤ N ∧ m + (leftE below last (s.take j) l).length = l.length ∧ TabS w0 ms rs b t cs k mb (leftE below last (s.take j) l) last wr ∧ OwnU wr w.heap.size (.slice A N c) s) (fun _ i _ => N - (intOf i).toNat)
  case atStart => exact ⟨0, 0, rfl, rfl, Nat.zero_le _, by rw [List.take_zero, leftE_nil, Nat.zero_add], by rw [List.take_zero, leftE_nil]; exact HTw.out, HO.out⟩
  case round =>
    obtain ⟨m, j, rfl, rfl, hjN, hm, hT, hO⟩ := hrel
    clear HTw HO HT
    have HT := Lib.hid hT
    have HO := Lib.hid hO
    have HM := Lib.hid hm
    have hm12 : m ≤ 12 := by have := HL.out; omega
    have hN12 : N ≤ 12 := by have h1 := HL.out; have h2 := HNN.out; have h3 := HSL.out; omega
    clear hT hO hm
    by_cases hlt : j < N
    · have hjl : j < s.length := by have := HNN.out; omega
      obtain ⟨x, hx⟩ : ∃ x, x = s[j] := ⟨_, rfl⟩
      have htk : s.take (j + 1) = s.take j ++ [x] := by rw [hx, List.take_add_one, List.getElem?_eq_getElem hjl]; rfl
      have hxs : x ∈ s := by rw [hx]; exact List.getElem_mem hjl
      have hnd : s.Nodup := (HP.out.nodup_iff).2 HN.out
      have hxn : x ∉ s.take j := fun h => by
        have h1 : (s.take j ++ [x]).Nodup := by rw [← htk]; exact List.Nodup.sublist (List.take_sublist _ _) hnd
        exact (List.nodup_append.1 h1).2.2 x h x (by simp) rfl
      obtain ⟨A', c', hv', _, h0⟩ := HO.out.us
      obtain ⟨gs, hA, hcs⟩ := h0 (by omega)
      have cx : wr.cell? ⟨gs, j, none⟩ = some (.int .u32 (x : Int)) := by rw [hcs j hjl, cellsU_get s j hjl, hx]
      obtain rfl : A = some ⟨gs, 0, none⟩ := by injection hv' with e1; rw [e1, hA]
      have c0 := HT.out.tabW.cellM
      have c1 := HT.out.tabW.cellL
      have hltI : (j : Int) < (N : Int) := by omega
      have HTK := Lib.hid htk
      have HXN := Lib.hid hxn
      have HXL : Hid (x ∈ l.map (·.id)) := HP.out.mem_iff.1 hxs
      clear hx htk hxs hnd hxn hv' h0 hA hcs hjl
      have live : ∀ hd : dead below last x = false, ∃ (m' j' : Nat), (Value.int .i64 (m : Int)) = .int .i64 (m' : Int) ∧ Value.int .i64 ((j : Int) + 1) = .int .i64 (j' : Int) ∧ j' ≤ N ∧ m' + (leftE below last (s.take j') l).length = l.length ∧ TabS w0 ms rs b t cs k mb (leftE below last (s.take j') l) last wr ∧ OwnU wr w.heap.size (.slice (some ⟨gs, 0, none⟩) N c) s := fun hd =>
        ⟨m, j + 1, rfl, by go_num, hlt, by rw [HTK.out, leftE_live hd]; exact HM.out, by rw [HTK.out, leftE_live hd]; exact HT.out, HO.out⟩
      have LIVE := Lib.hid live
      clear live
      by_cases hb : x < below
      · by_cases hxl : x = last
        · have hne : ((x : Int) != (last : Int)) = false := by rw [hxl]; simp
          have hd : Hid (dead below last x = false) := by show _ = _; simp [dead, hxl]
          clear hxl
          go_wp2
          go_roundw
          case rel => exact LIVE.out hd.out
          case measure => simp [intOf]; omega
        · have hne : ((x : Int) != (last : Int)) = true := by rw [bne_iff_ne]; omega
          have hd : Hid (dead below last x = true) := by show _ = _; simp [dead, hb, hxl]
          obtain ⟨L1, e, L2, hL, he, hq1, hq2⟩ := ep_split (leftE_nodup (below := below) (last := last) (s := s.take j) HN.out) (leftE_has HXL.out HXN.out)
          obtain ⟨g, rfl⟩ : ∃ g, mb = some g := by
            cases hmb : mb with
            | none => exact absurd (HT.out.empty hmb) (by rw [hL]; simp)
            | some g => exact ⟨g, rfl⟩
          have hT2 := HT.out
          rw [hL] at hT2
          have HT2 := Lib.hid hT2
          have HL2 : Hid (leftE below last (s.take (j + 1)) l = L1 ++ L2) := by show _ = _; rw [HTK.out, leftE_dead hd.out, hL, filter_mid he hq1 hq2]
          have hmL := HM.out
          rw [hL] at hmL
          have HM2 := Lib.hid hmL
          have HF : Hid (findV x (epsM (L1 ++ e :: L2)) = some (.pointer (some ⟨e.blk, 0, none⟩))) := find_mid he L2 L1 hq1
          have HD : Hid (dropV x (epsM (L1 ++ e :: L2)) = epsM (L1 ++ L2)) := drop_mid he L2 L1 hq1
          have HLEN : Hid (∀ y ∈ L1 ++ L2, y.key.length = 32) := fun y hy => hT2.len y (by
            rcases List.mem_append.1 hy with hy | hy
            · exact List.mem_append_left _ hy
            · exact List.mem_append_right _ (List.mem_cons_of_mem _ hy))
          have hke : e.key.length = 32 := hT2.len e (by simp)
          have hE := hT2.env
          rw [show rs ++ (b, t, cs) :: epsR (L1 ++ e :: L2) = (rs ++ (b, t, cs) :: epsR L1) ++ (e.blk, 32, keyC e.key) :: epsR L2 by simp [epsR]] at hE
          obtain ⟨p, hp⟩ : ∃ p, p = e.blk := ⟨_, rfl⟩
          obtain ⟨key, hkey⟩ : ∃ p, p = e.key := ⟨_, rfl⟩
          rw [← hp, ← hkey] at hE
          rw [← hp] at HF
          rw [← hkey] at hke
          have EE := Lib.hid hE
          have LK := Lib.hid hke
          have HMI := Lib.hid (hE.mapIn 0 rfl)
          have HS : Hid (seenV false (.pointer none) (findV x (epsM (L1 ++ e :: L2))) = .pointer (some ⟨p, 0, none⟩)) := by show _ = _; rw [HF.out]; rfl
          clear hL hT2 hmL he hq1 hq2 hxl HT HM HTK HXN HXL hE hp hkey hke LIVE
          go_wp2_with (first
            | (with_reducible refine wpList_val (o := ⟨some 31, _, _, _, _, _⟩) rfl (.pointer (some ⟨p, 0, none⟩)) (HS.out ▸ run_lookV (P := Try.prog) (.tmp 29) (.tmp 30) false rfl (some g) x (epsM (L1 ++ e :: L2)) (by with_unfolding_all rfl) (by with_unfolding_all rfl) HMI.out Try.underlying26 Try.underlying22 (.pointer none) Try.zeroPK) ?_)
            | (with_reducible refine wpList_build0 (o := ⟨some 32, _, _, _, _, _⟩) rfl 32 rfl (keyC zeroKey) Try.builtK0 ?_)
            | ((with_reducible refine wpList_store_row (o := ⟨none, _, _, _, _, _⟩) rfl 32 (.tmp 33) (.tmp 32) rfl p 32 (keyC key) (keyC zeroKey) (by with_unfolding_all rfl) (by with_unfolding_all rfl) (EE.out.row _ (mid_get _ _ _)) (keyC_same LK.out zeroKey_length) (Try.sizeKey _ zeroKey_length) (keyC_one _) ?_); intro w2 p2; have T2 := EE.out.put _ (mid_get _ _ _) p2; rw [mid_set] at T2; have O2 := Lib.hid (HO.out.kept p2.grown (.inr (HO.out.other (EE.out.row _ (mid_get _ _ _)) (by decide)))); have c2 := (T2.rowOf (g := b) (t := t) (cs := cs) (by simp)).cell k; rw [HT2.out.cM] at c2; have E2 := Lib.hid T2; obtain ⟨ob, ho, hmo⟩ := T2.mapAt 0 rfl; have HOB := Lib.hid ho; have HMO := Lib.hid hmo; clear T2 p2 ho hmo)
            | ((with_reducible refine wpList_dropV (o := ⟨none, _, _, _, _, _⟩) rfl (.tmp 37) (.tmp 38) rfl g x (.pointer (some ⟨p, 0, none⟩)) (epsM (L1 ++ e :: L2)) ob (by with_unfolding_all rfl) (by with_unfolding_all rfl) HOB.out HMO.out HF.out Try.underlying26 Try.underlying22 ?_); intro w3 ob3 q1 q2 q3; rw [HD.out] at q2; have E3 := Lib.hid (E2.out.turnM q3 q1 q2); have O3 := Lib.hid (O2.out.grown q3 (fun r er => by injection er with er; subst er; exact ⟨ob, HOB.out, by obtain ⟨_, _, rfl, _⟩ := HMO.out; rfl⟩)); clear q1 q2 q3))
          go_roundw
          case rel =>
            refine ⟨m + 1, j + 1, by go_num, by go_num, by omega, ?_, ?_, O3.out⟩
            · rw [HL2.out]
              have h1 := HM2.out
              simp only [List.length_append, List.length_cons] at h1 ⊢
              omega
            · rw [HL2.out]
              refine ⟨E3.out.less ?_, HT2.out.cM, HT2.out.cL, fun er => (by cases er), HLEN.out⟩
              rw [show rs ++ (b, t, cs) :: epsR (L1 ++ L2) = (rs ++ (b, t, cs) :: epsR L1) ++ epsR L2 by simp [epsR]]
              exact (List.Sublist.refl _).append (List.sublist_cons_self _ _)
          case measure => simp [intOf]; omega
      · have hd : Hid (dead below last x = false) := by show _ = _; simp [dead, hb]
        go_wp2
        go_roundw
        case rel => exact LIVE.out hd.out
        case measure => simp [intOf]; omega
    · have hjN2 : j = N := by omega
      have hall : leftE below last (s.take j) l = l.filter fun e => !dead below last e.id := by
        rw [hjN2, HNN.out, List.take_length, leftE_all HP.out]
      have HALL := Lib.hid hall
      have hge : ¬ (j : Int) < (N : Int) := by omega
      have HJN := Lib.hid hjN2
      clear hall hjN2 hjN
      go_wp2
      go_ret
      have hm := HM.out
      have hT := HT.out
      rw [HALL.out] at hm hT
      refine ⟨?_, hT⟩
      rw [show l.length - (l.filter fun e => !dead below last e.id).length = m by omega]
      rfl
end
end Go.Proofs.Ythipdfmaaeoijaa
end
section
namespace Go.Proofs.Ythipdfmaaeoijaa
open Go.RowKit
set_option linter.unusedVariables false
set_option maxRecDepth 20000

/-- The secret beside a number. -/
def kAt (id : Nat) : List (Nat × List UInt8) → Option (List UInt8)
  | [] => none
  | p :: l => if id = p.1 then some p.2 else kAt id l
def pairE (e : Ep) : Nat × List UInt8 := (e.id, e.key)
theorem kAt_ep (id : Nat) : ∀ l : List Ep, kAt id (l.map pairE) = (epAt id l).map (·.key)
  | [] => rfl
  | e :: l => by
    show kAt id (pairE e :: l.map pairE) = _
    unfold kAt epAt pairE
    split
    · rfl
    · exact kAt_ep id l
/-- The code beside what was found. -/
def eCode {α : Type} (o : Option α) : Int := if o.isSome then 0 else 80
structure Tbl (w0 : World) (ms : List (Nat × IntKind × List (Nat × Value))) (rs : List (Nat × TypeId × Array Value)) (b : Nat) (ks : List (Nat × List UInt8)) (last : Nat) (w : World) : Prop where
  ex : ∃ (mb : Option Nat) (l : List Ep), TabS w0 ms rs b 28 #[.map mb, .int .u32 (last : Int)] 0 mb l last w ∧ l.map pairE = ks ∧ (l = [] → mb = none)
theorem bornC_two (x y : Value) (g id : Nat) : bornC #[x, y] 0 g id = #[.map (some g), .int .u32 (id : Int)] := by simp [bornC]
theorem Try.zeroT : (Try.prog.info? 28).map (·.zero) = some (some (.agg #[.map none, .int .u32 0])) := by kernel_rfl
theorem Try.builtT : Try.prog.built 28 [] = some #[.map none, .int .u32 0] := by kernel_rfl
section
variable {w0 w w' : World} {ms : List (Nat × IntKind × List (Nat × Value))} {rs rs' : List (Nat × TypeId × Array Value)} {b last : Nat} {ks : List (Nat × List UInt8)}
theorem Tbl.made (h : EnvM w0 ms (rs ++ [(b, 28, #[.map none, .int .u32 0])]) w) : Tbl w0 ms rs b [] 0 w := ⟨none, [], TabS.made h rfl rfl, rfl, fun _ => rfl⟩
theorem Tbl.call (h : Tbl w0 ms rs b ks last w) (hb : Below w.heap.size w w') : Tbl w0 ms rs b ks last w' := by obtain ⟨mb, l, h1, h2⟩ := h.ex; exact ⟨mb, l, h1.call hb, h2⟩
theorem Tbl.drew (h : Tbl w0 ms rs b ks last w) : Tbl w0 ms rs b ks last w.drew := by obtain ⟨mb, l, h1, h2⟩ := h.ex; exact ⟨mb, l, h1.drew, h2⟩
theorem Tbl.below (h : Tbl w0 ms rs b ks last w) : Below w0.heap.size w0 w := by obtain ⟨mb, l, h1, h2⟩ := h.ex; exact h1.below
theorem Tbl.new {g : Nat} {t' : TypeId} {cs' : Array Value} (h : Tbl w0 ms rs b ks last w) (n : NewRow w g t' cs' w') : Tbl w0 ms ((g, t', cs') :: rs) b ks last w' := by obtain ⟨mb, l, h1, h2⟩ := h.ex; exact ⟨mb, l, h1.new n, h2⟩
theorem Tbl.put {g i : Nat} {t' : TypeId} {cs' old : Array Value} (h : Tbl w0 ms rs b ks last w) (hi : rs[i]? = some (g, t', old)) (p : PutRow w g t' cs' w') : Tbl w0 ms (rs.set i (g, t', cs')) b ks last w' := by obtain ⟨mb, l, h1, h2⟩ := h.ex; exact ⟨mb, l, h1.put hi p, h2⟩
theorem Tbl.less (h : Tbl w0 ms rs b ks last w) (hs : rs'.Sublist rs) : Tbl w0 ms rs' b ks last w := by obtain ⟨mb, l, h1, h2⟩ := h.ex; exact ⟨mb, l, h1.less hs, h2⟩
theorem Tbl.row {g i : Nat} {t' : TypeId} {cs' : Array Value} (h : Tbl w0 ms rs b ks last w) (hi : rs[i]? = some (g, t', cs')) : RowAt w g t' cs' := by obtain ⟨mb, l, h1, h2⟩ := h.ex; exact h1.row hi
theorem Tbl.len (h : Tbl w0 ms rs b ks last w) : ∀ p ∈ ks, p.2.length = 32 := by
  obtain ⟨mb, l, h1, h2, _⟩ := h.ex
  subst h2
  intro p hp
  obtain ⟨e, he, rfl⟩ := List.mem_map.1 hp
  exact h1.len e he
theorem pairs_ids (l : List Ep) : l.map (·.id) = (l.map pairE).map (·.1) := by simp [pairE, Function.comp_def]
theorem Tbl.secret (h : Tbl w0 ms rs b ks last w) (id : Nat) : Calls Try.prog 9 #[.pointer (some ⟨b, 0, none⟩), .int .u32 (id : Int)] w (RetV w (.tuple #[.agg (keyC ((kAt id ks).getD zeroKey)), .int .i64 (eCode (kAt id ks))])) := by
  obtain ⟨mb, l, h1, h2, _⟩ := h.ex
  subst h2
  have h3 := secret_any w b 0 mb l last id h1.tabW
  rw [kAt_ep]
  unfold keyAt_ codeAt at h3
  cases hf : epAt id l <;> rw [hf] at h3 <;> exact h3
theorem Tbl.pubOf (h : Tbl w0 ms rs b ks last w) (id : Nat) : Calls Try.prog 10 #[.pointer (some ⟨b, 0, none⟩), .int .u32 (id : Int)] w (RetV w (.tuple #[.agg (keyC (((kAt id ks).map fun k => rawK k nineK).getD zeroKey)), .int .i64 (eCode (kAt id ks))])) := by
  obtain ⟨mb, l, h1, h2, _⟩ := h.ex
  subst h2
  have h3 := public_any w b 0 mb l last id h1.tabW
  rw [kAt_ep]
  unfold pubAt codeAt at h3
  cases hf : epAt id l <;> rw [hf] at h3 <;> exact h3
theorem Tbl.shared (h : Tbl w0 ms rs b ks last w) (id : Nat) (pt : List UInt8) (lp : pt.length = 32) : Calls Try.prog 11 #[.pointer (some ⟨b, 0, none⟩), .int .u32 (id : Int), .agg (keyC pt)] w (RetV w (.tuple #[.agg (keyC (((kAt id ks).map fun k => multK k pt).getD zeroKey)), .int .i64 (((kAt id ks).map fun k => multE k pt).getD 80)])) := by
  obtain ⟨mb, l, h1, h2, _⟩ := h.ex
  subst h2
  have h3 := shared_any w b 0 mb l last id pt lp h1.tabW
  rw [kAt_ep]
  unfold shKey shCode at h3
  cases hf : epAt id l <;> rw [hf] at h3 <;> exact h3
theorem Tbl.ids (h : Tbl w0 ms rs b ks last w) (hl : ks.length ≤ 12) : Calls Try.prog 12 #[.pointer (some ⟨b, 0, none⟩)] w fun e w' => ∃ v s, e = .returned v ∧ (s.Perm (ks.map (·.1)) ∧ s.Pairwise (· ≤ ·)) ∧ OwnU w' w.heap.size v s ∧ Below w.heap.size w w' := by
  obtain ⟨mb, l, h1, h2, _⟩ := h.ex
  subst h2
  have h3 := ids_any w b 0 mb (epsM l) h1.tabW.cellM h1.tabW.map (by rw [epsM_length]; simpa using hl)
  rw [epsM_keys, pairs_ids] at h3
  exact h3
theorem Tbl.born (h : Tbl w0 ms rs b ks last w) (id : Nat) (key : List UInt8) (lk : key.length = 32) (hl : ks.length ≠ 6) (hid : ks = [] ∨ ((last : Int) + 1) % 4294967296 = (id : Int)) (hne : ∀ p ∈ ks, p.1 ≠ id) :
    Calls Try.prog 7 #[.pointer (some ⟨b, 0, none⟩), .int .u32 (id : Int), .agg (keyC key)] w fun e w' => e = .returned (.int .i64 0) ∧ Tbl w0 ms rs b (ks ++ [(id, key)]) id w' := by
  obtain ⟨mb, l, h1, h2, h0⟩ := h.ex
  subst h2
  have end_ : ∀ (e : Ending) (w' : World), (e = .returned (.int .i64 0) ∧ ∃ g p, TabS w0 ms rs b 28 (bornC #[.map mb, .int .u32 (last : Int)] 0 g id) 0 (some g) (l ++ [⟨id, p, key⟩]) id w') → e = .returned (.int .i64 0) ∧ Tbl w0 ms rs b (l.map pairE ++ [(id, key)]) id w' := by
    rintro e w' ⟨rfl, g, p, hT⟩
    rw [bornC_two] at hT
    exact ⟨rfl, some g, l ++ [⟨id, p, key⟩], hT, by simp [pairE], fun e => by simp at e⟩
  cases mb with
  | none => exact (born_first h1 id key lk rfl).mono end_
  | some g =>
    have hl0 : l ≠ [] := fun e => by cases h0 e
    refine (born_next_ h1 id key lk g rfl (by simpa using hl) hl0 ?_ fun e he => hne (pairE e) (List.mem_map.2 ⟨e, he, rfl⟩)).mono end_
    rcases hid with hid | hid
    · exact absurd (List.map_eq_nil_iff.1 hid) hl0
    · exact hid
theorem Tbl.bornFull (h : Tbl w0 ms rs b ks last w) (id : Nat) (key : List UInt8) (lk : key.length = 32) (hl : ks.length = 6) :
    Calls Try.prog 7 #[.pointer (some ⟨b, 0, none⟩), .int .u32 (id : Int), .agg (keyC key)] w fun e w' => e = .returned (.int .i64 63) ∧ Tbl w0 ms rs b ks last w' := by
  obtain ⟨mb, l, h1, h2, h0⟩ := h.ex
  subst h2
  exact (born_full h1 id key lk (by simpa using hl)).mono fun e w' h => ⟨h.1, mb, l, h.2, rfl, h0⟩
theorem Tbl.bornArg (h : Tbl w0 ms rs b ks last w) (id : Nat) (key : List UInt8) (lk : key.length = 32) (hl : ks.length ≠ 6) (h0 : ks ≠ []) (hid : ¬ (id : Int) = ((last : Int) + 1) % 4294967296) :
    Calls Try.prog 7 #[.pointer (some ⟨b, 0, none⟩), .int .u32 (id : Int), .agg (keyC key)] w fun e w' => e = .returned (.int .i64 1) ∧ Tbl w0 ms rs b ks last w' := by
  obtain ⟨mb, l, h1, h2, h3⟩ := h.ex
  subst h2
  exact (born_arg h1 id key lk (by simpa using hl) (fun e => h0 (by rw [e]; rfl)) hid).mono fun e w' h => ⟨h.1, mb, l, h.2, rfl, h3⟩
theorem Tbl.erase (h : Tbl w0 ms rs b ks last w) (below : Nat) (hl : ks.length ≤ 12) (hn : (ks.map (·.1)).Nodup) (hlast : ks ≠ [] → last ∈ ks.map (·.1)) :
    Calls Try.prog 8 #[.pointer (some ⟨b, 0, none⟩), .int .u32 (below : Int)] w fun e w' =>
      e = .returned (.int .i64 ((ks.length - (ks.filter fun p => !dead below last p.1).length : Nat) : Int)) ∧ Tbl w0 ms rs b (ks.filter fun p => !dead below last p.1) last w' := by
  obtain ⟨mb, l, h1, h2, h0⟩ := h.ex
  subst h2
  rw [← pairs_ids] at hn hlast
  have hf : (l.map pairE).filter (fun p => !dead below last p.1) = (l.filter fun e => !dead below last e.id).map pairE := by rw [List.filter_map]; rfl
  rw [hf, List.length_map, List.length_map]
  refine (erase_any h1 below (by simpa using hl) hn).mono fun e w' h => ⟨h.1, mb, _, h.2, rfl, fun hnil => h0 ?_⟩
  by_cases hl0 : l = []
  · exact hl0
  · obtain ⟨e, he, hid⟩ := List.mem_map.1 (hlast (by simpa using hl0))
    have : e ∈ l.filter fun e => !dead below last e.id := List.mem_filter.2 ⟨he, by simp [dead, hid]⟩
    rw [hnil] at this
    cases this
end
section
variable {P : Program} {w0 w : World} {ms : List (Nat × IntKind × List (Nat × Value))} {rs : List (Nat × TypeId × Array Value)} {b last : Nat} {ks : List (Nat × List UInt8)} {ops : Array Oper} {rest : List Oper} {o : Oper} {a : Act} {Q : Exit → Act → World → Prop}
theorem wpB_alloc (hgd : o.guard = none) (ty : TypeId) (ho : o.op = .alloc ty) (z : Array Value) (hz : (P.info? ty).map (·.zero) = some (some (.agg z))) (hE : Tbl w0 ms rs b ks last w)
    (h : ∀ g w', Tbl w0 ms ((g, ty, z) :: rs) b ks last w' → wpList P ops Q rest (a.put o.dst (.pointer (some ⟨g, 0, none⟩))) w') : wpList P ops Q (o :: rest) a w :=
  wpList_alloc_row hgd ty ho z hz fun g w' n => h g w' (hE.new n)
theorem wpB_store (hgd : o.guard = none) (ty : TypeId) (x y : Operand) (ho : o.op = .store ty x y) (i g : Nat) (t' : TypeId) (old c : Array Value) (hi : rs[i]? = some (g, t', old)) (hx : a.eval x = .pointer (some ⟨g, 0, none⟩)) (hy : a.eval y = .agg c)
    (hso : old.size = c.size) (hs : (P.info? ty).map (·.size) = some c.size) (h1 : ∀ u ∈ c.toList, u.oneCell' = true) (hE : Tbl w0 ms rs b ks last w)
    (h : ∀ w', Tbl w0 ms (rs.set i (g, t', c)) b ks last w' → wpList P ops Q rest (a.put o.dst undef) w') : wpList P ops Q (o :: rest) a w :=
  wpList_store_row hgd ty x y ho g t' old c hx hy (hE.row hi) hso hs h1 fun w' p => h w' (hE.put hi p)
end
end Go.Proofs.Ythipdfmaaeoijaa
end
