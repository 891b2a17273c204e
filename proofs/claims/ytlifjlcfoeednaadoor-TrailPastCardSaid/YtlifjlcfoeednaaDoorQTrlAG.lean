/-
  Texts that belong together, merged: EnvS, EnvT, Kl, MacT, Iter, MacH, MacI, MacM, OtsA, OtsB, OtsRefA, Hi8, Val, FlatN, RowN. Conditions: as each theorem names them.
-/
import Derived.Test.YtlifjlcfoeednaaDoorQTrlAF
import Derived.Test.YtlifjlcfoeednaaDoorQTrlAD
import Derived.Laws.Cover3
import Derived.Test.YtlifjlcfoeednaaDoorQTrlAE
import Derived.RangeFuncNested
import Derived.Test.YtlifjlcfoeednaaDoorQTrlAC
import Derived.Test.YtlifjlcfoeednaaDoorQTrlAA
import Derived.Laws.Tables
import Derived.Great.BuildSlice
section
namespace Go.Proofs.YtlifjlcfoeednaaDoor
open Go.RowKit
set_option linter.unusedVariables false

/-- However a region's operations came about, one continuation serves. -/
theorem loose_share {P : Program} {md : Region.Mode} {ops : Array Oper} {Q : Exit → Act → World → Prop} {fin : Nat → Bool} {w0 w : World} {rs : List (Nat × TypeId × Array Value)} {m : Nat} {listed : Array Bool} {a : Act} {A : Nat → Act} (ty : TypeId) (cs : Array Value)
    (hgo : ∀ g w', Env w0 ((g, ty, cs) :: rs) w' → Q .normal (A g) w') (h : (∀ g w', Env w0 ((g, ty, cs) :: rs) w' → Q .normal (A g) w') → walkS P md ops Q (Env w0 rs) fin m listed a w) : walkS P md ops Q (Env w0 rs) fin m listed a w := h hgo

section
variable {P : Program} {md : Region.Mode} {ops : Array Oper} {Q : Exit → Act → World → Prop} {S : World → Prop} {fin : Nat → Bool}
theorem walkS_two {i j m : Nat} {oi oj : Oper} {listed : Array Bool} {a : Act} {w : World} (hr : Region.ready md ops listed = [i, j]) (hi : ops[i]? = some oi) (hj : ops[j]? = some oj) (hgi : oi.guard = none) (hgj : oj.guard = none)
    (h1 : ∀ K : Act → World → Prop, (∀ a' w', (fin i = true ∨ S w') → walkS P md ops Q S fin m (listed.setIfInBounds i true) a' w' → K a' w') → oi.wp P a w K Q)
    (h2 : ∀ K : Act → World → Prop, (∀ a' w', (fin j = true ∨ S w') → walkS P md ops Q S fin m (listed.setIfInBounds j true) a' w' → K a' w') → oj.wp P a w K Q) : walkS P md ops Q S fin (m + 1) listed a w := by
  refine ⟨fun h0 => (by rw [hr] at h0; cases h0), fun k hk => ?_⟩
  rw [hr] at hk
  rcases List.mem_cons.1 hk with rfl | hk
  · unfold wpOp
    rw [hi]
    have hw : Region.wanted oi (yielded ops a.tmps) = true := by simp [Region.wanted, hgi]
    simp only [hw, if_true]
    exact .inl (h1 _ (fun a' w' h1 h2 => ⟨h1, h2⟩))
  · obtain rfl : k = j := by simpa using hk
    unfold wpOp
    rw [hj]
    have hw : Region.wanted oj (yielded ops a.tmps) = true := by simp [Region.wanted, hgj]
    simp only [hw, if_true]
    exact .inl (h2 _ (fun a' w' h1 h2 => ⟨h1, h2⟩))
/-- Into the walk, with the rows of the call as what abides. -/
theorem region_rows {id : Nat} {w0 w : World} {rs : List (Nat × TypeId × Array Value)} {a : Act} (_ : Env w0 rs w) (hm : P.follows .mixedOrders = true) (h : walkS P .any ops Q (Env w0 rs) fin ops.size (Array.replicate ops.size false) a w.drew) : (Code.region id ops true).wp P Q a w := plain_region hm h
theorem takeE_load {w0 : World} {rs : List (Nat × TypeId × Array Value)} {k : Nat} {oi : Oper} (hi : ops[k]? = some oi) (hs : Region.noSelect ops = true)
    (hw : ((List.range ops.size).all fun j => !fin j || (match ops[j]? with | some oj => oj.after.any (fun e => Region.binds md e && e.on == k) | none => true)) = true)
    (hQ : ∀ v c a w, Q (.panic c) (a.put oi.dst v) w → Q (.panic c) a w) (m : Nat) (listed : Array Bool) (a : Act) (w : World) (hf : Region.free md ops listed k = true) (hr : (Region.ready md ops listed).contains k = true)
    (hgw : Region.wanted oi (yielded ops a.tmps) = true) (ty : TypeId) (x : Operand) (ho : oi.op = .load ty x) (i g : Nat) (t : TypeId) (cs : Array Value) (d : TypeDesc) (hi2 : rs[i]? = some (g, t, cs)) (hx : a.eval x = .pointer (some ⟨g, 0, none⟩))
    (hu : P.underlying ty = some d) (hd : (match d with | .struct _ | .array _ _ => true | _ => false) = true) (hsz : (P.info? ty).map (·.size) = some cs.size) (hE : Env w0 rs w)
    (h : walkS P md ops Q (Env w0 rs) fin m (listed.setIfInBounds k true) (a.put oi.dst (.agg cs)) w) : walkS P md ops Q (Env w0 rs) fin (m + 1) listed a w :=
  walkS_take hi hs hw (hQ _) m listed a w hf hr (.inl ⟨hgw, fun w' hS => run_load_row ty x ho g hx t cs (0, 0) d (hS.row i hi2) hu hd hsz⟩) hE h
end
end Go.Proofs.YtlifjlcfoeednaaDoor
end
section
namespace Go.Proofs.YtlifjlcfoeednaaDoor
open Go.RowKit
set_option linter.unusedVariables false
set_option maxRecDepth 20000

theorem Env.grown {w0 w w' : World} {rs : List (Nat × TypeId × Array Value)} {row : Option Nat} (h : Env w0 rs w) (hg : w.grownBy w' row) (hr : ∀ r ∈ rs, some r.1 ≠ row) (h0 : ∀ k, row = some k → w0.heap.size ≤ k) : Env w0 rs w' :=
  ⟨h.below.grown hg h.below.size h0, fun r hm => ⟨(h.rows r hm).1.grown hg (hr r hm), (h.rows r hm).2⟩, h.apart⟩
theorem Env.add {w0 w : World} {rs : List (Nat × TypeId × Array Value)} {g : Nat} {t : TypeId} {cs : Array Value} (h : Env w0 rs w) (hr : RowAt w g t cs) (hs : w0.heap.size ≤ g) (hne : ∀ r ∈ rs, r.1 ≠ g) : Env w0 ((g, t, cs) :: rs) w :=
  ⟨h.below, fun r hm => by
    rcases List.mem_cons.1 hm with rfl | hm
    · exact ⟨hr, hs⟩
    · exact h.rows r hm, List.nodup_cons.2 ⟨fun hm => by
      obtain ⟨r, hr, he⟩ := List.mem_map.1 hm
      exact hne r hr he, h.apart⟩⟩
end Go.Proofs.YtlifjlcfoeednaaDoor
end
section
namespace Go.Proofs.YtlifjlcfoeednaaDoor
open Go.RowKit Go.Shelf
set_option linter.unusedVariables false
set_option maxRecDepth 20000

/-- A slice of keys reads as ls. -/
def Kl (w : World) (v : Value) (ls : List (List UInt8)) : Prop :=
  ∃ A c, v = .slice A ls.length c ∧ ls.length ≤ c ∧ c ≤ maxLen ∧ (∀ l ∈ ls, l.length = 32) ∧ (0 < ls.length → ∃ b o, A = some ⟨b, o, none⟩ ∧ ∀ (k : Nat) (l : List UInt8), ls[k]? = some l → w.rangeAt b (o + k * 32) (cellsB l))
theorem Kl.nil (w : World) : Kl w (.slice none 0 0) [] := ⟨none, 0, rfl, Nat.le_refl _, by simp [maxLen], by simp, fun h => absurd h (by simp)⟩
theorem Kl.keep {w w' : World} {v : Value} {ls : List (List UInt8)} (h : Kl w v ls) (hk : ∀ p : Addr, p.block < w.heap.size → w'.cell? p = w.cell? p) : Kl w' v ls := by
  obtain ⟨A, c, hv, h1, h2, h4, h3⟩ := h
  refine ⟨A, c, hv, h1, h2, h4, fun hl => ?_⟩
  obtain ⟨b, o, hA, hc⟩ := h3 hl
  exact ⟨b, o, hA, fun k l e j u hj => (hk ⟨b, o + k * 32 + j, none⟩ (World.block_lt_of_cell? w _ (hc k l e j u hj))).trans (hc k l e j u hj)⟩
theorem Kl.below {w w' : World} {v : Value} {ls : List (List UInt8)} (h : Kl w v ls) (hb : Below w.heap.size w w') : Kl w' v ls := h.keep fun _ hp => hb.cell hp

theorem run_keyL {P : Program} {w : World} {o : Oper} {a : Act} (ty : TypeId) (x : Operand) (ho : o.op = .load ty x) (g k : Nat) (hx : a.eval x = .pointer (some ⟨g, k, none⟩)) (l : List UInt8) (d : TypeDesc) (hc : w.rangeAt g k (cellsB l))
    (hu : P.underlying ty = some d) (hd : d.isRow = true) (hs : (P.info? ty).map (·.size) = some (cellsB l).length) : (execOp a.eval o).run P w = .ok (.value (.agg (keyC l))) w := by
  unfold execOp
  simp only [ho, hx, Instr.loadAt, Instr.sureAddr, Sem.run_bind, Sem.run_pure, Result.andThen_ok, run_loadVar_mid w g k ty (cellsB l) d hc hu hd hs]
  rfl
theorem wpList_loadK {P : Program} {ops : Array Oper} {rest : List Oper} {o : Oper} {a : Act} {w : World} {Q : Exit → Act → World → Prop} (hgd : o.guard = none) (ty : TypeId) (x : Operand) (ho : o.op = .load ty x) (g k : Nat) (hx : a.eval x = .pointer (some ⟨g, k, none⟩)) (l : List UInt8) (d : TypeDesc) (hc : w.rangeAt g k (cellsB l))
    (hu : P.underlying ty = some d) (hd : d.isRow = true) (hs : (P.info? ty).map (·.size) = some (cellsB l).length) (h : wpList P ops Q rest (a.put o.dst (.agg (keyC l))) w) : wpList P ops Q (o :: rest) a w :=
  wpList_load_mid hgd ty x ho g k hx (cellsB l) d hc hu hd hs h
theorem Tryd.sizeKeyM (l : List UInt8) (h : l.length = 32) : (Tryd.prog.info? 24).map (·.size) = some (cellsB l).length := by
  have := Tryd.sizeKey l h
  rw [keyC_size] at this
  rw [cellsB_length]
  exact this
theorem Tryd.infoKey : (Tryd.prog.info? 24).map (fun i => (i.zero, i.size, i.bytes)) = some (some (.agg (keyC zeroKey)), 32, 32) := by kernel_rfl
theorem Kl.row {w : World} {g : Nat} {t : TypeId} {ls : List (List UInt8)} (h : RowAt w g t (keyC ls.flatten)) (hls : ∀ l ∈ ls, l.length = 32) (hlen : ls.length ≤ 1000000) : Kl w (.slice (some ⟨g, 0, none⟩) ls.length ls.length) ls := by
  refine ⟨_, _, rfl, Nat.le_refl _, by unfold maxLen; omega, hls, fun _ => ⟨g, 0, rfl, fun k l hk => ?_⟩⟩
  have h1 := rangeAt_row (k := k * 32) (n := (cellsB l).length) h
  rw [keys_part ls hls k l hk] at h1
  rwa [Nat.zero_add]
end Go.Proofs.YtlifjlcfoeednaaDoor
end
section
namespace Go.Proofs.YtlifjlcfoeednaaDoor
set_option linter.unusedVariables false

/-- T1, T2 and so on; T0 is empty. -/
def tB (key info : List UInt8) : Nat → List UInt8
  | 0 => []
  | k + 1 => macB key (tB key info k ++ info ++ [UInt8.ofNat (k + 1)])
def outT (key info : List UInt8) : Nat → List UInt8
  | 0 => []
  | k + 1 => outT key info k ++ tB key info (k + 1)
theorem tB_length (key info : List UInt8) (k : Nat) : (tB key info (k + 1)).length = 32 := macB_length _ _
theorem tB_le (key info : List UInt8) (k : Nat) : (tB key info k).length ≤ 32 := by
  cases k with
  | zero => simp [tB]
  | succ k => rw [tB_length]; omega
theorem outT_length (key info : List UInt8) (k : Nat) : (outT key info k).length = 32 * k := by
  induction k with
  | zero => rfl
  | succ k ih => rw [outT, List.length_append, ih, tB_length]; omega

end Go.Proofs.YtlifjlcfoeednaaDoor
end
section
namespace Go.Proofs.YtlifjlcfoeednaaDoor
open Go.RowKit
set_option linter.unusedVariables false

/-- The iterator's contract: J stands behind each round; it may say nothing that R turns. -/
def SeqR {α : Type} (F : Fence) (n : Nat) (P : Program) (g : Nat) (lb : Array Value) (encs : α → Array Value) (R Kp : World → World → Prop) (S Sp : List α → Prop) (N : Nat) (w : World) : Prop :=
  ∀ (l : Nat) (J Jx : List α → World → Prop) (W : World), Below w.heap.size w W → AbidesFrom W.heap.size J → AbidesFrom W.heap.size Jx →
    (∀ s A B, J s A → R A B → J s B) → (∀ s A B, Jx s A → R A B → Jx s B) →
    (∀ pre x W1, J pre W1 → pre.length < N → YieldAt F (n - 1) P l (encs x) W1 fun e W' =>
      (e = .returned (.bool true) ∧ J (pre ++ [x]) W' ∧ Kp W1 W') ∨ (e = .returned (.bool false) ∧ Jx (pre ++ [x]) W')) →
    J [] W →
    CallsIn F n P g (#[.func (.yield l) #[] #[]] ++ lb) W fun e W' => (∃ v, e = .returned v) ∧ ((∃ xs, S xs ∧ J xs W') ∨ (∃ pre, Sp pre ∧ Jx pre W'))

variable {F : Fence} {n : Nat} {P : Program}

theorem wpIn_rangeFunc_R {α : Type} {g : Operand} {ps : Array Tmp} {assign body : Code} {Q : Exit → Act → World → Prop} {a : Act} {w : World}
    (hro : F.round = none) (h1 : 1 ≤ n) {gf : Nat} {lb : Array Value} (hg : a.eval g = .func (.func gf) #[] lb) (hFg : F.fn gf) (eg : ∀ args w, (callFunc gf args).run P w = .ok (.enter gf args) w)
    {encs : α → Array Value} {R Kp : World → World → Prop} {S Sp : List α → Prop} {N : Nat} {w0 : World} (hseq : SeqR F (n - 1) P gf lb encs R Kp S Sp N w0)
    (hRk : ∀ A B, R A B → ∀ k o, w.heap.size ≤ k → A.heap[k]? = some o → o.isCells = false → B.heap[k]? = some o)
    (hKt : ∀ {A B C : World}, Kp A B → Kp B C → Kp A C) (hKb : ∀ (W : World) (l : Nat) (o o' : Obj), w.heap.size ≤ l → W.heap[l]? = some o → o.isCells = false → o.isWalk = false → Kp W (W.putObj l o')) (hb0 : Below w0.heap.size w0 w) (hps : ∀ x, (encs x).size = ps.size)
    (I : List α → World → Prop) (Ix : Code → List α → World → Prop) (hI : OwnFrom w.heap.size I) (hIx : ∀ c, OwnFrom w.heap.size (Ix c)) (hIR : ∀ s A B, I s A → R A B → I s B) (hIxR : ∀ c s A B, Ix c s A → R A B → Ix c s B) (h0 : I [] w)
    (Ax : α → Act → World → Prop) (hAx : ∀ x a', OwnFrom w.heap.size (fun (_ : Unit) W => Ax x a' W))
    (hassign : ∀ (l : Nat) (pre : List α) (x : α) (W : World) (K : Act → World → Prop), I pre W → (∀ a' W', KeepsFrom w.heap.size W W' → Kp W W' → I pre W' → Ax x a' W' → K a' W') →
      assign.wpIn (F.inRound l) (n - 1 - 1) P (Exit.then K (fun _ _ _ => False)) { tmps := (ps.zip (encs x)).foldl (fun t (p, v) => t.setIfInBounds p v) a.tmps, defers := [] } W)
    (hbody : ∀ (l : Nat) (pre : List α) (x : α) (a' : Act) (W : World), w.heap.size ≤ l → (∃ r, W.heap[l]? = some (.loop r)) → I pre W → Ax x a' W → pre.length < N → body.wpIn (F.inRound l) (n - 1 - 1) P (ownPostG w.heap.size Kp I Ix (pre ++ [x]) W) a' W)
    (hdone : ∀ (D : Nat) (xs : List α) (W : World), w.heap.size ≤ D → S xs → I xs W → W.heap[D]? = some (.deferred (some [])) → Q .normal { a with defers := { target := .collected D, args := #[] } :: a.defers } W)
    (hstop : ∀ (D : Nat) (c : Code) (pre : List α) (W : World), w.heap.size ≤ D → Sp pre → Ix c pre W → W.heap[D]? = some (.deferred (some [])) → c.wpIn F n P Q { a with defers := { target := .collected D, args := #[] } :: a.defers } W) :
    (Code.rangeFunc g ps assign body).wpIn F n P Q a w := by
  refine wpIn_rangeFunc fun fn hfn => ?_
  rw [hro]
  obtain ⟨B, hB⟩ : ∃ B, B = w.heap.size := ⟨_, rfl⟩
  obtain ⟨rec, hrec⟩ : ∃ rec : LoopState → Option Code → Loop, rec = fun st pe => { state := st, pending := pe, fn, tmps := a.tmps, params := ps, assign, body, defers := B } := ⟨_, rfl⟩
  obtain ⟨W1, hW1⟩ : ∃ W1, W1 = (w.alloc (.deferred (some []))).alloc (.loop (rec .ready none)) := ⟨_, rfl⟩
  have hD0 : W1.heap[B]? = some (.deferred (some [])) := by
    rw [hW1, hB]; exact (Below.heap_alloc _ _ _ (by simp)).trans (World.alloc_heap_new w _)
  have hL0 : W1.heap[B + 1]? = some (.loop (rec .ready none)) := by
    have := World.alloc_heap_new (w.alloc (.deferred (some []))) (.loop (rec .ready none)); rwa [World.size_alloc, ← hB, ← hW1] at this
  have hb1 : Below w.heap.size w W1 := by rw [hW1]; exact ((Below.refl _ w).alloc (Nat.le_refl _) _).alloc (by simp) _
  have hI0 : I [] W1 := by rw [hW1]; exact hI.alloc _ (hI.alloc _ h0)
  refine ⟨B + 1, [{ target := .collected B, args := #[] }], W1, { target := .fn (.func gf) lb, args := #[.func (.yield (B + 1)) #[] #[]] }, W1, gf, #[.func (.yield (B + 1)) #[] #[]] ++ lb, W1,
    by rw [hW1, hrec, hB]; exact run_enterLoop_outer _ _ _ _ _, by simp only [resolve, hg]; simp [go_sem], by intro f' hf'; simp [Target.leads] at hf'; subst hf'; exact hFg, by simp [invoke, go_sem, eg], fun _ => h1, ?_⟩
  have hWB : B + 2 ≤ W1.heap.size := by rw [hW1]; simp only [World.size_alloc]; omega
  clear hW1
  have hBle : w0.heap.size ≤ B := by rw [hB]; exact hb0.size
  have hsz : w.heap.size = B := hB.symm
  rw [hsz] at hI hRk hb1
  simp only [hsz] at hIx hKb hassign hbody hdone hstop hAx
  -- what the loop keeps of its own: its record in a state, and what it has deferred
  obtain ⟨At, hAt⟩ : ∃ At : LoopState → Option Code → World → Prop, At = fun st pe W => W.heap[B + 1]? = some (.loop (rec st pe)) ∧ W.heap[B]? = some (.deferred (some [])) := ⟨_, rfl⟩
  have keep : ∀ {st pe X Y} {row : Option Nat}, At st pe X → X.grownBy Y row → (∀ r, row = some r → W1.heap.size ≤ r ∧ ∃ o : Obj, X.heap[r]? = some o ∧ o.isWalk = true) → At st pe Y := by
    intro st pe X Y row hs hgr hr
    rw [hAt] at hs ⊢
    have far : ∀ k, k ≤ B + 1 → k < X.heap.size → Y.heap[k]? = X.heap[k]? := fun k hk hx => hgr.block k hx fun e => by have := (hr k e.symm).1; omega
    exact ⟨(far _ (Nat.le_refl _) (Array.getElem?_eq_some_iff.1 hs.1).1).trans hs.1, (far _ (Nat.le_succ _) (Array.getElem?_eq_some_iff.1 hs.2).1).trans hs.2⟩
  have keepR : ∀ {st pe X Y}, At st pe X → R X Y → At st pe Y := by
    intro st pe X Y hs hr
    rw [hAt] at hs ⊢
    exact ⟨hRk X Y hr _ _ (Nat.le_succ _) hs.1 rfl, hRk X Y hr _ _ (Nat.le_refl _) hs.2 rfl⟩
  have put : ∀ {st pe X} (st' : LoopState) (pe' : Option Code), At st pe X → At st' pe' (X.putObj (B + 1) (.loop (rec st' pe'))) := by
    intro st pe X st' pe' hs
    rw [hAt] at hs ⊢
    exact ⟨World.putObj_heap_same (Array.getElem?_eq_some_iff.1 hs.1).1, (World.putObj_heap_other (by omega)).trans hs.2⟩
  have keepF : ∀ {st pe X Y}, At st pe X → KeepsFrom B X Y → At st pe Y := by
    intro st pe X Y hs hk
    rw [hAt] at hs ⊢
    exact ⟨hk.same _ _ (Nat.le_succ _) hs.1 rfl, hk.same _ _ (Nat.le_refl _) hs.2 rfl⟩
  have loopOf : ∀ {st pe X}, At st pe X → X.heap[B + 1]? = some (.loop (rec st pe)) := fun hs => by rw [hAt] at hs; exact hs.1
  have defOf : ∀ {st pe X}, At st pe X → X.heap[B]? = some (.deferred (some [])) := fun hs => by rw [hAt] at hs; exact hs.2
  have at0 : At .ready none W1 := by rw [hAt]; exact ⟨hL0, hD0⟩
  have cells : ∀ {X Y : World} {row : Option Nat}, (∀ r, row = some r → W1.heap.size ≤ r ∧ ∃ o : Obj, X.heap[r]? = some o ∧ o.isWalk = true) → (∀ r, row = some r → B ≤ r ∧ ∃ o : Obj, X.heap[r]? = some o ∧ o.isCells = false) :=
    fun hr r e => by obtain ⟨hb, o, ho, hw⟩ := hr r e; exact ⟨by omega, o, ho, Obj.not_cells_of_walk hw⟩
  have hb01 : Below w0.heap.size w0 W1 := hb0.trans (hb1.mono hBle)
  clear hAt hL0 hD0
  refine (hseq (B + 1) (fun pre W => I pre W ∧ At .ready none W) (fun pre W => ∃ c, Ix c pre W ∧ At .done (some c) W) W1 hb01
    (fun s X Y row hs hgr hr => ⟨hI s X Y row hs.1 hgr (cells (Y := Y) hr), keep hs.2 hgr hr⟩)
    (fun s X Y row ⟨c, hs⟩ hgr hr => ⟨c, hIx c s X Y row hs.1 hgr (cells (Y := Y) hr), keep hs.2 hgr hr⟩)
    (fun s X Y hs hr => ⟨hIR s X Y hs.1 hr, keepR hs.2 hr⟩) (fun s X Y ⟨c, hs⟩ hr => ⟨c, hIxR c s X Y hs.1 hr, keepR hs.2 hr⟩) ?_ ⟨hI0, at0⟩).mono ?_
  · rintro pre x X ⟨hi, hat⟩ hlen
    have hy := run_yield (P := P) (args := encs x) (loopOf hat) (by rw [hrec]; exact hps x)
    rw [hrec] at hy
    refine ⟨fn, _, assign, body, hy, roundIn_of_wpIn hfn (hassign _ pre x X _ hi fun a' X2 hkf hkp hi2 hax => ?_)⟩
    have hat2 := keepF hat hkf
    refine ⟨_, run_beginRound (loopOf hat2) (by rw [hrec]), ?_⟩
    have hat3 := put .busy none hat2
    have hkb := hKb X2 (B + 1) _ (.loop (rec .busy none)) (Nat.le_succ _) (loopOf hat2) rfl rfl
    have hi3 := hI.putObj (.loop (rec .busy none)) hi2 (Nat.le_succ _) (loopOf hat2) rfl
    have hax3 := (hAx x a').putObj (s := ()) (.loop (rec .busy none)) hax (Nat.le_succ _) (loopOf hat2) rfl
    have hB3 := hbody (B + 1) pre x a' (X2.putObj (B + 1) (.loop (rec .busy none))) (Nat.le_succ _) ⟨_, loopOf hat3⟩ hi3 hax3 hlen
    have ends : ∀ (jump : Option Code) (Y : World), At .busy none Y → (Instr.endRound (B + 1) jump).run P Y = .ok (.bool jump.isNone) (Y.putObj (B + 1) (.loop (rec (if jump.isNone then .ready else .done) jump))) := fun jump Y hY => by
      have := run_endRound (P := P) jump (loopOf hY)
      rw [hrec] at this ⊢
      exact this
    rw [show ({ rec LoopState.ready none with state := LoopState.busy } : Loop) = rec .busy none by rw [hrec]]
    refine wpIn_mono hB3 ?_
    rintro e a3 Y hp
    have left : ∀ c : Code, KeepsFrom B (X2.putObj (B + 1) (.loop (rec .busy none))) Y → Ix c (pre ++ [x]) Y →
        ∃ W', (Instr.endRound (B + 1) (some c)).run P Y = .ok (.bool false) W' ∧ ∃ c', Ix c' (pre ++ [x]) W' ∧ At .done (some c') W' := fun c hk hx => by
      have hY := keepF hat3 hk
      exact ⟨_, ends (some c) Y hY, c, (hIx c).putObj _ hx (Nat.le_succ _) (loopOf hY) rfl, put .done (some c) hY⟩
    cases e with
    | normal =>
      obtain ⟨hk3, hkp3, hi4⟩ := hp
      have hY := keepF hat3 hk3
      exact ⟨_, _, ends none Y hY, .inl ⟨rfl, ⟨hI.putObj _ hi4 (Nat.le_succ _) (loopOf hY) rfl, put .ready none hY⟩, hKt hkp (hKt (hKt hkb hkp3) (hKb Y (B + 1) _ _ (Nat.le_succ _) (loopOf hY) rfl rfl))⟩⟩
    | ret =>
      obtain ⟨_, h1, h3⟩ := left .ret hp.1 hp.2
      exact ⟨_, _, h1, .inr ⟨rfl, h3⟩⟩
    | exit id =>
      obtain ⟨_, h1, h3⟩ := left (.exit id) hp.1 hp.2
      exact ⟨_, _, h1, .inr ⟨rfl, h3⟩⟩
    | goto t =>
      obtain ⟨_, h1, h3⟩ := left (.goto t) hp.1 hp.2
      exact ⟨_, _, h1, .inr ⟨rfl, h3⟩⟩
    | panic ch => exact hp.elim
    | outgrown => exact hp.elim
  · rintro e W2 ⟨⟨v, rfl⟩, (⟨xs, hS, hi, hat⟩ | ⟨pre, hSp, c, hi, hat⟩)⟩
    · exact ⟨none, _, by have := run_endLoop (P := P) (loopOf hat) (by rw [hrec]; simp); rw [hrec] at this; exact this, hdone _ xs _ (Nat.le_refl _) hS (hI.putObj _ hi (Nat.le_succ _) (loopOf hat) rfl) ((World.putObj_heap_other (by omega)).trans (defOf hat))⟩
    · exact ⟨some c, _, by have := run_endLoop (P := P) (loopOf hat) (by rw [hrec]; simp); rw [hrec] at this; exact this, hstop _ c pre _ (Nat.le_refl _) hSp ((hIx c).putObj _ hi (Nat.le_succ _) (loopOf hat) rfl) ((World.putObj_heap_other (by omega)).trans (defOf hat))⟩
end Go.Proofs.YtlifjlcfoeednaaDoor
end
section
namespace Go.Proofs.YtlifjlcfoeednaaDoor
open Go.RowKit Go.Shelf
attribute [local go_sem] Oper.semAt_some
set_option linter.unusedVariables false
set_option maxRecDepth 20000

/-- What may come of a Meter at g that keeps nothing: it has counted, but no more than M. -/
def MeterStep (g M : Nat) (A B : World) : Prop :=
  A.grownBy B (some g) ∧ (∃ n, RowAt A g 76 (meterC false n (.slice none 0 0))) ∧ ∃ n, n ≤ M ∧ RowAt B g 76 (meterC false n (.slice none 0 0))
theorem MeterStep.keeps {g M : Nat} {A B : World} (h : MeterStep g M A B) (k : Nat) (o : Obj) (hk : A.heap[k]? = some o) (ho : o.isCells = false) : B.heap[k]? = some o := by
  obtain ⟨hg, ⟨n, hn⟩, _⟩ := h
  refine (hg.block k (Array.getElem?_eq_some_iff.1 hk).1 fun e => ?_).trans hk
  injection e with e
  subst e
  rw [show A.heap[k]? = _ from hn] at hk
  cases hk
  simp [Obj.isCells] at ho

/-- A row of cells, but none of bytes. -/
def rowKept : Obj → Bool
  | .cells _ t _ => t != 5
  | _ => false
/-- What a round's body must keep: all that lay when the caller began, and each row but those that X names. -/
def BodyKeeps (x : World) (X : Nat → Prop) (W W' : World) : Prop := Below x.heap.size W W' ∧ ∀ k o, W.heap[k]? = some o → rowKept o = true → ¬ X k → W'.heap[k]? = some o
theorem bodyKeeps_t {x : World} {X : Nat → Prop} {A B C : World} (h : BodyKeeps x X A B) (k : BodyKeeps x X B C) : BodyKeeps x X A C :=
  ⟨h.1.trans k.1, fun i o h1 h2 h3 => k.2 i o (h.2 i o h1 h2 h3) h2 h3⟩
theorem bodyKeeps_b {x w : World} {X : Nat → Prop} (hx : x.heap.size ≤ w.heap.size) (W : World) (l : Nat) (o o' : Obj) (hl : w.heap.size ≤ l) (h : W.heap[l]? = some o) (h2 : o.isCells = false) (h3 : o.isWalk = false) : BodyKeeps x X W (W.putObj l o') := by
  refine ⟨belowK_b hx W l o o' hl h h2 h3, fun k o2 hk hc _ => ?_⟩
  refine (World.putObj_heap_other fun e => ?_).trans hk
  subst e
  rw [h] at hk
  cases hk
  cases o <;> simp [rowKept, Obj.isCells] at hc h2
theorem BodyKeeps.of_below {x W W' : World} {X : Nat → Prop} (hx : x.heap.size ≤ W.heap.size) (h : Below W.heap.size W W') : BodyKeeps x X W W' :=
  ⟨h.mono hx, fun k o hk _ _ => (h.block k (Array.getElem?_eq_some_iff.1 hk).1).trans hk⟩

theorem Run.beneath {w0 w x y : World} {g n : Nat} (h : Run w0 w g n x) (hb : Below w.heap.size x y) : Run w0 w g n y :=
  ⟨h.below.trans (hb.mono h.old), h.row.below hb h.glt, h.tabs0, h.far, h.old, h.row0, ⟨hb.os.trans h.grown.os, hb.tape.trans h.grown.tape, hb.output.trans h.grown.output, Nat.le_trans h.grown.size hb.size, fun k hk h1 => (hb.block k hk).trans (h.grown.block k hk h1)⟩⟩
theorem Run.step {w0 w x y : World} {g n M : Nat} (h : Run w0 w g n x) (hs : MeterStep g M x y) : ∃ n', n' ≤ M ∧ Run w0 w g n' y := by
  obtain ⟨hg, _, n', hn, hr⟩ := hs
  exact ⟨n', hn, h.below.grown hg h.below.size (fun k e => by injection e with e; subst e; exact h.far), hr, h.tabs0, h.far, h.old, h.row0, grown_trans h.grown hg⟩
theorem Run.meterStep {w0 w x : World} {g n M : Nat} (h : Run w0 w g n x) (hn : n ≤ M) : MeterStep g M w x := ⟨h.grown, h.row0, n, hn, h.row⟩

/-- What the function has captured: how many, a Meter, a key, an info. -/
structure XEnv (w0 x W : World) (g m gn gm gk gi : Nat) (vi : Value) (key : List UInt8) (N : Nat) : Prop where
  run : ∃ n, n ≤ m ∧ Run w0 x g n W
  count : Boxed W gn 3 (.int .i64 (N : Int))
  meter : Boxed W gm 30 (.pointer (some ⟨g, 0, none⟩))
  key : RowAt W gk 24 (keyC key)
  info : Boxed W gi 22 vi
section
variable {w0 x W W' : World} {g m gn gm gk gi : Nat} {vi : Value} {key : List UInt8} {N : Nat}
theorem XEnv.apart (h : XEnv w0 x W g m gn gm gk gi vi key N) : gn ≠ g ∧ gm ≠ g ∧ gk ≠ g ∧ gi ≠ g := by
  obtain ⟨n, _, hr⟩ := h.run
  have row : W.heap[g]? = some (.cells (meterC false n (.slice none 0 0)) 76 (0, 0)) := hr.row
  refine ⟨fun e => ?_, fun e => ?_, fun e => ?_, fun e => ?_⟩
  · have c : W.heap[gn]? = _ := h.count
    rw [e, row] at c
    injection c with c; injection c with _ c _; exact absurd c (by decide)
  · have c : W.heap[gm]? = _ := h.meter
    rw [e, row] at c
    injection c with c; injection c with _ c _; exact absurd c (by decide)
  · have c : W.heap[gk]? = _ := h.key
    rw [e, row] at c
    injection c with c; injection c with _ c _; exact absurd c (by decide)
  · have c : W.heap[gi]? = _ := h.info
    rw [e, row] at c
    injection c with c; injection c with _ c _; exact absurd c (by decide)
theorem XEnv.below (h : XEnv w0 x W g m gn gm gk gi vi key N) (hb : Below W.heap.size W W') : XEnv w0 x W' g m gn gm gk gi vi key N := by
  obtain ⟨n, hn, hr⟩ := h.run
  exact ⟨⟨n, hn, hr.kept hb⟩, (hb.block _ h.count.lt).trans h.count, (hb.block _ h.meter.lt).trans h.meter, h.key.kept hb, (hb.block _ h.info.lt).trans h.info⟩
theorem XEnv.ran (h : XEnv w0 x W g m gn gm gk gi vi key N) {n m' : Nat} (hr : Run w0 W g n W') (hn : n ≤ m') : XEnv w0 x W' g m' gn gm gk gi vi key N := by
  obtain ⟨h1, h2, h3, h4⟩ := h.apart
  obtain ⟨n0, _, hr0⟩ := h.run
  exact ⟨⟨n, hn, hr0.trans hr⟩, h.count.kept hr.grown (by intro e; injection e with e; exact h1 e), h.meter.kept hr.grown (by intro e; injection e with e; exact h2 e), hr.other h.key h3, h.info.kept hr.grown (by intro e; injection e with e; exact h4 e)⟩
theorem XEnv.body (h : XEnv w0 x W g m gn gm gk gi vi key N) {X : Nat → Prop} (hX : ¬ X gn ∧ ¬ X gm ∧ ¬ X gk ∧ ¬ X gi) (hb : BodyKeeps x X W W') : XEnv w0 x W' g m gn gm gk gi vi key N := by
  obtain ⟨h1, h2, h3, h4⟩ := hX
  obtain ⟨n0, hn, hr0⟩ := h.run
  exact ⟨⟨n0, hn, hr0.beneath hb.1⟩, hb.2 _ _ h.count rfl h1, hb.2 _ _ h.meter rfl h2, hb.2 _ _ h.key rfl h3, hb.2 _ _ h.info rfl h4⟩
theorem XEnv.own (h : XEnv w0 x W g m gn gm gk gi vi key N) {row : Option Nat} (hg : W.grownBy W' row) (hr : ∀ r, row = some r → ∃ o : Obj, W.heap[r]? = some o ∧ o.isCells = false) (hx : ∀ r, row = some r → x.heap.size ≤ r) : XEnv w0 x W' g m gn gm gk gi vi key N := by
  obtain ⟨n0, hn, hr0⟩ := h.run
  have keep : ∀ (k : Nat) (o : Obj), W.heap[k]? = some o → o.isCells = true → W'.heap[k]? = some o := fun k o hk hc => by
    refine (hg.block k (Array.getElem?_eq_some_iff.1 hk).1 fun e => ?_).trans hk
    obtain ⟨o2, h1, h2⟩ := hr k e.symm
    rw [hk] at h1
    cases h1
    rw [hc] at h2
    cases h2
  exact ⟨⟨n0, hn, hr0.beneath ((Below.refl _ W).grown hg hr0.size hx)⟩, keep _ _ h.count rfl, keep _ _ h.meter rfl, keep _ _ h.key rfl, keep _ _ h.info rfl⟩
end

theorem XEnv.stepped {w0 x A B : World} {g m gn gm gk gi M : Nat} {vi : Value} {key : List UInt8} {N : Nat} (h : XEnv w0 x A g m gn gm gk gi vi key N) (hs : MeterStep g M A B) : XEnv w0 x B g M gn gm gk gi vi key N := by
  obtain ⟨h1, h2, h3, h4⟩ := h.apart
  obtain ⟨n0, _, hr0⟩ := h.run
  exact ⟨hr0.step hs, h.count.kept hs.1 (by intro e; injection e with e; exact h1 e), h.meter.kept hs.1 (by intro e; injection e with e; exact h2 e), h.key.grown hs.1 (by intro e; injection e with e; exact h3 e), h.info.kept hs.1 (by intro e; injection e with e; exact h4 e)⟩
theorem XEnv.lt {w0 x W : World} {g m gn gm gk gi : Nat} {vi : Value} {key : List UInt8} {N : Nat} (h : XEnv w0 x W g m gn gm gk gi vi key N) : gn < W.heap.size ∧ gm < W.heap.size ∧ gk < W.heap.size ∧ gi < W.heap.size := ⟨h.count.lt, h.meter.lt, h.key.lt, h.info.lt⟩
theorem XEnv.more {w0 x W : World} {g m m' gn gm gk gi : Nat} {vi : Value} {key : List UInt8} {N : Nat} (h : XEnv w0 x W g m gn gm gk gi vi key N) (hm : m ≤ m') : XEnv w0 x W g m' gn gm gk gi vi key N := by
  obtain ⟨n, hn, hr⟩ := h.run
  exact ⟨⟨n, Nat.le_trans hn hm, hr⟩, h.count, h.meter, h.key, h.info⟩

/-- What was told last, as the next round reads it. -/
def LastOk (base : Nat) (W : World) (v : Value) (key info : List UInt8) (k : Nat) : Prop :=
  (k = 0 ∧ v = .slice none 0 0) ∨ (0 < k ∧ ∃ b, v = .slice (some ⟨b, 0, none⟩) 32 32 ∧ base ≤ b ∧ RowAt W b 24 (keyC (tB key info k)))
theorem LastOk.bs {base : Nat} {W : World} {v : Value} {key info : List UInt8} {k : Nat} (h : LastOk base W v key info k) : Bs W v (tB key info k) := by
  rcases h with ⟨rfl, rfl⟩ | ⟨hk, b, rfl, _, hr⟩
  · exact Bs.nil W
  · obtain ⟨j, rfl⟩ : ∃ j, k = j + 1 := ⟨k - 1, by omega⟩
    exact row32 hr (tB_length _ _ _)
theorem LastOk.keep {base : Nat} {W W' : World} {v : Value} {key info : List UInt8} {k : Nat} (h : LastOk base W v key info k) (hk : ∀ b cs, RowAt W b 24 cs → base ≤ b → RowAt W' b 24 cs) : LastOk base W' v key info k := by
  rcases h with ⟨rfl, rfl⟩ | ⟨h0, b, rfl, hb, hr⟩
  · exact .inl ⟨rfl, rfl⟩
  · exact .inr ⟨h0, b, rfl, hb, hk b _ hr hb⟩
theorem meter_not_key {W : World} {g n b : Nat} {cs : Array Value} (h : RowAt W g 76 (meterC false n (.slice none 0 0))) (hr : RowAt W b 24 cs) : b ≠ g := by
  rintro rfl
  have e := (show W.heap[b]? = _ from h).symm.trans (show W.heap[b]? = _ from hr)
  injection e with e
  injection e with _ c _
  exact absurd c (by decide)
theorem wrap64k (n : Nat) (h : n < 18446744073709551616) : IntKind.u64.wrap (n : Int) = (n : Int) := by rw [IntKind.wrap_u64]; omega
theorem high1 (k : Nat) (hk : k < 256) (w : World) : Calls Tryd.prog 23 #[.int .u64 (k : Int), .int .i64 1] w (RetBs w [UInt8.ofNat k]) := by
  have h := High_in w k 1 (by omega) (by omega) (by omega)
  have e : (lowB k 1).reverse = [UInt8.ofNat k] := by simp [lowB, byteN]
  rwa [e] at h
/-- However a region's operations came about, one continuation serves. -/
theorem share_walk {P : Program} {md : Region.Mode} {ops : Array Oper} {Q : Exit → Act → World → Prop} {fin : Nat → Bool} {w : World} {T : World → Prop} {m : Nat} {listed : Array Bool} {a : Act} {A : Nat → Option Addr → Nat → Nat → Act} (E : Nat → World → Prop)
    (hgo : ∀ g d c b w', E g w' → Q .normal (A g d c b) w') (h : (∀ g d c b w', E g w' → Q .normal (A g d c b) w') → walkS P md ops Q T fin m listed a w) : walkS P md ops Q T fin m listed a w := h hgo
/-- Two are left, in whichever order: the one that makes a variable, and another one. -/
theorem walkT_two {P : Program} {md : Region.Mode} {ops : Array Oper} {Q : Exit → Act → World → Prop} {S : World → Prop} {fin : Nat → Bool} {i j m : Nat} {oi oj : Oper} {listed : Array Bool} {a : Act} {w : World} (hr : Region.ready md ops listed = [i, j]) (hi : ops[i]? = some oi) (hj : ops[j]? = some oj) (hgi : oi.guard = none) (hgj : oj.guard = none)
    (h1 : ∀ K : Act → World → Prop, (∀ a' w', (fin i = true ∨ S w') → walkS P md ops Q S fin m (listed.setIfInBounds i true) a' w' → K a' w') → oi.wp P a w K Q)
    (h2 : ∀ K : Act → World → Prop, (∀ a' w', (fin j = true ∨ S w') → walkS P md ops Q S fin m (listed.setIfInBounds j true) a' w' → K a' w') → oj.wp P a w K Q) : walkS P md ops Q S fin (m + 1) listed a w := by
  have gone : ∀ o : Oper, o.guard = none → Region.wanted o (yielded ops a.tmps) = true := fun o h => by simp [Region.wanted, h]
  refine ⟨fun h0 => by simp [hr] at h0, fun k hk => ?_⟩
  rw [hr] at hk
  unfold wpOp
  rcases List.mem_cons.1 hk with rfl | hk
  · simp only [hi, gone _ hgi, if_true]
    exact .inl (h1 _ (fun _ _ h1 h2 => ⟨h1, h2⟩))
  · obtain rfl : k = j := by simpa using hk
    simp only [hj, gone _ hgj, if_true]
    exact .inl (h2 _ (fun _ _ h1 h2 => ⟨h1, h2⟩))

end Go.Proofs.YtlifjlcfoeednaaDoor
end
section
namespace Go.Proofs.YtlifjlcfoeednaaDoor
open Go.RowKit Go.Shelf
attribute [local go_sem] Oper.semAt_some
set_option linter.unusedVariables false
set_option maxRecDepth 20000

end Go.Proofs.YtlifjlcfoeednaaDoor
end
section
namespace Go.Proofs.YtlifjlcfoeednaaDoor
open Go.RowKit Go.Shelf
attribute [local go_sem] Oper.semAt_some
set_option linter.unusedVariables false
set_option maxRecDepth 20000

def lastT (key info : List UInt8) (pre : List Nat) : List UInt8 := match pre.getLast? with | none => zeroKey | some x => tB key info (x + 1)
theorem lastT_length (key info : List UInt8) (pre : List Nat) : (lastT key info pre).length = 32 := by
  unfold lastT
  split
  · exact zeroKey_length
  · exact tB_length _ _ _
theorem lastT_snoc (key info : List UInt8) (pre : List Nat) (x : Nat) : lastT key info (pre ++ [x]) = tB key info (x + 1) := by simp [lastT]

end Go.Proofs.YtlifjlcfoeednaaDoor
end
section
namespace Go.Proofs.YtlifjlcfoeednaaDoor
open Go.RowKit
set_option linter.unusedVariables false
set_option maxRecDepth 20000

def mC (n : Nat) : Array Value := meterC false n (.slice none 0 0)
section
variable {w0 w w' : World} {rs : List (Nat × TypeId × Array Value)} {m g n n' : Nat}
theorem Env.toRun (hE : Env w0 rs w) (ht : Tabs w0) (hm : rs[m]? = some (g, 76, mC n)) : Run w0 w g n w :=
  ⟨hE.below, hE.row m hm, ht, hE.spot m hm, hE.below.size, ⟨n, hE.row m hm⟩, grown_refl _ _⟩
theorem Env.ofRun (hE : Env w0 rs w) (hm : rs[m]? = some (g, 76, mC n)) (h : Run w0 w g n' w') : Env w0 (rs.set m (g, 76, mC n')) w' := hE.turned m hm h.row h.grown
theorem Env.bs (hE : Env w0 rs w) {v : Value} {l : List UInt8} (h : Bs w0 v l) : Bs w v l := h.below hE.below
theorem Env.arr (hE : Env w0 rs w) (i : Nat) {b : Nat} {t : TypeId} {l : List UInt8} (hi : rs[i]? = some (b, t, keyC l)) (k : Nat) (hl : l.length = k) (hk : k ≤ 1000000) : Bs w (.slice (some ⟨b, 0, none⟩) k k) l := by
  subst hl
  exact row_bs (hE.row i hi) (by unfold maxLen; omega)
theorem Sum_env (hE : Env w0 rs w) (ht : Tabs w0) (hm : rs[m]? = some (g, 76, mC n)) (v : Value) (ls : List (List UInt8)) (d : List UInt8) (hn : n ≤ 1000000000) (hd : d = digestB ls.flatten) (hb : Bss w v ls) (hl : ls.flatten.length ≤ 140737488355200) (hlm : ls.length ≤ 1000000) :
    Calls Tryd.prog 24 #[.pointer (some ⟨g, 0, none⟩), v] w fun e w' => e = .returned (.agg (keyC d)) ∧ Env w0 (rs.set m (g, 76, mC (n + 1))) w' :=
  (Sum_run w0 w g n v ls d (hE.toRun ht hm) hn hd hb hl hlm).mono fun _ _ h => ⟨h.1, hE.ofRun hm h.2⟩
end
theorem Env.tl {w0 w : World} {r : Nat × TypeId × Array Value} {rs : List (Nat × TypeId × Array Value)} (h : Env w0 (r :: rs) w) : Env w0 rs w := h.less (List.sublist_cons_self _ _)
theorem Env.cellV {w0 w : World} {rs : List (Nat × TypeId × Array Value)} {g : Nat} {t : TypeId} {cs : Array Value} (h : Env w0 rs w) (i : Nat) (hi : rs[i]? = some (g, t, cs)) (j : Nat) (v : Value) (hv : cs[j]? = some v) : w.cell? ⟨g, j, none⟩ = some v := by
  rw [(h.row i hi).cell j, hv]
theorem Env.fzV {w0 w : World} {rs : List (Nat × TypeId × Array Value)} {g : Nat} {t : TypeId} {cs : Array Value} (h : Env w0 rs w) (i : Nat) (hi : rs[i]? = some (g, t, cs)) (j : Nat) : w.frozen? ⟨g, j, none⟩ = false := (h.row i hi).frozen j
theorem run_partK {P : Program} {w : World} {o : Oper} {a : Act} (ty : TypeId) (x : Operand) (ho : o.op = .load ty x) (g k : Nat) (hx : a.eval x = .pointer (some ⟨g, k, none⟩)) (t : TypeId) (cs : Array Value) (l : List UInt8) (d : TypeDesc) (hr : RowAt w g t cs) (hp : (cs.toList.drop k).take (cellsB l).length = cellsB l)
    (hu : P.underlying ty = some d) (hd : d.isRow = true) (hs : (P.info? ty).map (·.size) = some (cellsB l).length) : (execOp a.eval o).run P w = .ok (.value (.agg (keyC l))) w := by
  have hc : w.rangeAt g k (cellsB l) := by
    have h := rangeAt_row (k := k) (n := (cellsB l).length) hr
    rwa [hp] at h
  unfold execOp
  simp only [ho, hx, Instr.loadAt, Instr.sureAddr, Sem.run_bind, Sem.run_pure, Result.andThen_ok, run_loadVar_mid w g k ty (cellsB l) d hc hu hd hs]
  rfl
theorem set_at {rs : List (Nat × TypeId × Array Value)} {m : Nat} {x y : Nat × TypeId × Array Value} (h : rs[m]? = some x) : (rs.set m y)[m]? = some y := by
  have := (List.getElem?_eq_some_iff.1 h).1
  simp [this]
/-- Two values that calls hand back, one continuation. -/
theorem share2 {P : Program} {md : Region.Mode} {ops : Array Oper} {Q : Exit → Act → World → Prop} {fin : Nat → Bool} {SS : World → Prop} {w : World} {m m' : Nat} {listed L' : Array Bool} {a : Act} {A : Value → Value → Act} (Φ : Value → Value → World → Prop)
    (hgo : ∀ u v x, Φ u v x → walkS P md ops Q SS fin m' L' (A u v) x) (h : (∀ u v x, Φ u v x → walkS P md ops Q SS fin m' L' (A u v) x) → walkS P md ops Q SS fin m listed a w) : walkS P md ops Q SS fin m listed a w := h hgo
theorem walkS_listed {P : Program} {md : Region.Mode} {ops : Array Oper} {Q : Exit → Act → World → Prop} {fin : Nat → Bool} {SS : World → Prop} {w : World} {m : Nat} {l l' : Array Bool} {a : Act} (h : l = l') (hw : walkS P md ops Q SS fin m l' a w) : walkS P md ops Q SS fin m l a w := h ▸ hw
theorem Bss.lit4 (w : World) (u0 u1 u2 u3 : Value) (a b c d : List UInt8) (h0 : Bs w u0 a) (h1 : Bs w u1 b) (h2 : Bs w u2 c) (h3 : Bs w u3 d) :
    Bss (w.alloc (.cells #[u0, u1, u2, u3] 22)) (.slice (some ⟨w.heap.size, 0, none⟩) 4 4) [a, b, c, d] := by
  have hb := alloc_below w (.cells #[u0, u1, u2, u3] 22)
  refine ⟨_, _, rfl, Nat.le_refl _, by unfold maxLen; simp, fun _ => ⟨w.heap.size, 0, rfl, fun j hj => ?_⟩⟩
  have hr := (RowAt.new w 22 #[u0, u1, u2, u3]).cell
  match j, hj with
  | 0, _ => exact ⟨u0, by rw [Nat.zero_add, hr]; rfl, h0.below hb⟩
  | 1, _ => exact ⟨u1, by rw [Nat.zero_add, hr]; rfl, h1.below hb⟩
  | 2, _ => exact ⟨u2, by rw [Nat.zero_add, hr]; rfl, h2.below hb⟩
  | 3, _ => exact ⟨u3, by rw [Nat.zero_add, hr]; rfl, h3.below hb⟩

end Go.Proofs.YtlifjlcfoeednaaDoor
end
section
namespace Go.Proofs.YtlifjlcfoeednaaDoor
open Go.RowKit
set_option linter.unusedVariables false
set_option maxRecDepth 20000

theorem set_id {rs : List (Nat × TypeId × Array Value)} {m : Nat} {x : Nat × TypeId × Array Value} (h : rs[m]? = some x) : rs.set m x = rs := by
  refine List.ext_getElem? fun j => ?_
  rw [List.getElem?_set]
  split
  · rename_i e
    subst e
    rw [if_pos (List.getElem?_eq_some_iff.1 h).1, h]
  · rfl

end Go.Proofs.YtlifjlcfoeednaaDoor
end
section
namespace Go.Proofs.YtlifjlcfoeednaaDoor
open Go.RowKit
set_option linter.unusedVariables false
set_option maxRecDepth 20000

section
variable {w0 w w' : World} {rs : List (Nat × TypeId × Array Value)} {m g n n' : Nat}
theorem Env.toLog (hE : Env w0 rs w) (hm : rs[m]? = some (g, 34, logC n)) : LogR w0 w g n w := LogR.new hE.below (hE.row m hm) (hE.spot m hm)
theorem Env.ofLog (hE : Env w0 rs w) (hm : rs[m]? = some (g, 34, logC n)) (h : LogR w0 w g n' w') : Env w0 (rs.set m (g, 34, logC n')) w' := hE.turned m hm h.row h.grown
theorem LogSum_env (hE : Env w0 rs w) (hm : rs[m]? = some (g, 34, logC n)) (v : Value) (l d : List UInt8) (hn : n ≤ 1000000000) (hd : d = digestB l) (hb : Bs w v l) (hl : l.length ≤ 1000000) :
    Calls Tryd.prog 26 #[.pointer (some ⟨g, 0, none⟩), v] w fun e w' => e = .returned (.agg (keyC d)) ∧ Env w0 (rs.set m (g, 34, logC (n + 1))) w' :=
  (LogSum_run w0 w g n v l d (hE.toLog hm) hn hd hb (Nat.le_trans hl (by omega))).mono fun _ _ h => ⟨h.1, hE.ofLog hm h.2⟩
end
theorem refNum_any (w : World) (z : Int) (k : Nat) (hk : (k : Int) = z % 18446744073709551616) : Calls Tryd.prog 25 #[.int .u64 (k : Int), .int .i64 2] w (RetBs w (numB z)) := by
  have h := refHigh_any w k (by omega) 2 (by omega)
  have e : highI k 2 = numB z := by
    unfold highI numB
    rw [show (2 : Int) = ((2 : Nat) : Int) from rfl, lowI_in k 2 (by omega) (by omega), ← hk]
    rfl
  rw [e] at h
  exact h

end Go.Proofs.YtlifjlcfoeednaaDoor
end
section
namespace Go.Proofs.YtlifjlcfoeednaaDoor
open Go.RowKit
set_option linter.unusedVariables false
set_option maxRecDepth 20000

/-- A draw's number, in eight bytes. -/
def hi8 (k : Nat) : List UInt8 := (lowB k 8).reverse
theorem hi8_length (k : Nat) : (hi8 k).length = 8 := by rw [hi8, List.length_reverse, lowB_length]
theorem hi8_any (w : World) (k : Nat) (hk : k < 18446744073709551616) : Calls Tryd.prog 23 #[.int .u64 (k : Int), .int .i64 8] w (RetBs w (hi8 k)) :=
  (High_own w k 8 hk (by omega) (by omega)).mono fun _ _ ⟨v, he, ho, hb⟩ => ⟨v, he, ho.bs, hb⟩
theorem refHi8_any (w : World) (k : Nat) (hk : k < 18446744073709551616) : Calls Tryd.prog 25 #[.int .u64 (k : Int), .int .i64 8] w (RetBs w (hi8 k)) := by
  have h := refHigh_any w k hk 8 (by omega)
  have e : highI k 8 = hi8 k := by
    unfold highI
    rw [show (8 : Int) = ((8 : Nat) : Int) from rfl, lowI_in k 8 (by omega) (by omega)]
    rfl
  rw [e] at h
  exact h
end Go.Proofs.YtlifjlcfoeednaaDoor
end
section
namespace Go.Proofs.YtlifjlcfoeednaaDoor
open Go.RowKit
set_option linter.unusedVariables false

theorem wpList_val {P : Program} {w : World} {ops : Array Oper} {rest : List Oper} {o : Oper} {a : Act} {Q : Exit → Act → World → Prop} (hgd : o.guard = none) (v : Value) (hr : (execOp a.eval o).run P w = .ok (.value v) w) (h : wpList P ops Q rest (a.put o.dst v) w) : wpList P ops Q (o :: rest) a w :=
  wpList_plain hgd fun _ hK => by
    unfold Oper.wp
    rw [hr]
    exact hK _ _ h
theorem wp_val {P : Program} {w : World} {o : Oper} {a : Act} {K : Act → World → Prop} {Q : Exit → Act → World → Prop} (v : Value) (hr : (execOp a.eval o).run P w = .ok (.value v) w) (h : K (a.put o.dst v) w) : o.wp P a w K Q := by
  unfold Oper.wp
  rw [hr]
  exact h
theorem wpListG_val {P : Program} {w : World} {ops : Array Oper} {rest : List Oper} {o : Oper} {a : Act} {Q : Exit → Act → World → Prop} (hw : Region.wanted o (yielded ops a.tmps) = true) (v : Value) (hr : (execOp a.eval o).run P w = .ok (.value v) w) (h : wpList P ops Q rest (a.put o.dst v) w) : wpList P ops Q (o :: rest) a w :=
  wpList_wanted hw fun _ hK => by
    unfold Oper.wp
    rw [hr]
    exact hK _ _ h
theorem run_builtOp {P : Program} {w : World} {o : Oper} {a : Act} (ty : TypeId) (parts : Array (Nat × Operand)) (ho : o.op = .build ty parts) (cells : Array Value) (hb : P.built ty (parts.map fun (i, x) => (i, a.eval x)).toList = some cells) : (execOp a.eval o).run P w = .ok (.value (.agg cells)) w := by
  have hr := run_build (P := P) w ty _ cells hb
  unfold execOp
  simp only [ho]
  simp only [Sem.run_bind, Sem.run_pure, hr, Result.andThen_ok]
end Go.Proofs.YtlifjlcfoeednaaDoor
end
section
namespace Go.Proofs.YtlifjlcfoeednaaDoor
open Go.RowKit
set_option linter.unusedVariables false

section
variable {α : Type} {n : Nat}
theorem dflat_length {ls : List (List α)} (h : ∀ l ∈ ls, l.length = n) : ls.flatten.length = ls.length * n := by
  induction ls with
  | nil => simp
  | cons l ls ih =>
    rw [List.flatten_cons, List.length_append, ih (fun x hx => h x (List.mem_cons_of_mem _ hx)), h l (List.mem_cons_self ..), List.length_cons, Nat.add_mul]
    omega
theorem dflat_drop {ls : List (List α)} (h : ∀ l ∈ ls, l.length = n) (i : Nat) : ls.flatten.drop (i * n) = (ls.drop i).flatten := by
  induction i generalizing ls with
  | zero => simp
  | succ i ih =>
    rcases ls with _ | ⟨l, ls⟩
    · simp
    · have hl : l.length = n := h l (List.mem_cons_self ..)
      rw [List.flatten_cons, List.drop_succ_cons, ← ih (fun x hx => h x (List.mem_cons_of_mem _ hx)), Nat.add_mul, Nat.one_mul, Nat.add_comm, List.drop_append, hl]
      rw [List.drop_eq_nil_of_le (by omega), Nat.add_sub_cancel_left, List.nil_append]
theorem dflat_take {ls : List (List α)} (h : ∀ l ∈ ls, l.length = n) (i : Nat) : ls.flatten.take (i * n) = (ls.take i).flatten := by
  induction i generalizing ls with
  | zero => simp
  | succ i ih =>
    rcases ls with _ | ⟨l, ls⟩
    · simp
    · have hl : l.length = n := h l (List.mem_cons_self ..)
      rw [List.flatten_cons, List.take_succ_cons, List.flatten_cons, ← ih (fun x hx => h x (List.mem_cons_of_mem _ hx)), Nat.add_mul, Nat.one_mul, Nat.add_comm, List.take_append, hl]
      rw [List.take_of_length_le (by omega), Nat.add_sub_cancel_left]
theorem dflat_part {ls : List (List α)} (h : ∀ l ∈ ls, l.length = n) {i : Nat} {l : List α} (hi : ls[i]? = some l) : (ls.flatten.drop (i * n)).take n = l := by
  rw [dflat_drop h i]
  obtain ⟨h1, rfl⟩ := List.getElem?_eq_some_iff.1 hi
  rw [List.drop_eq_getElem_cons h1, List.flatten_cons]
  exact List.take_left' (h _ (List.getElem_mem h1))
theorem flat_set {ls : List (List α)} (h : ∀ l ∈ ls, l.length = n) {i : Nat} (hi : i < ls.length) {x : List α} (hx : x.length = n) : ls.flatten.take (i * n) ++ x ++ ls.flatten.drop (i * n + n) = (ls.set i x).flatten := by
  have e : i * n + n = (i + 1) * n := by rw [Nat.add_mul, Nat.one_mul]
  rw [e, dflat_drop h (i + 1), dflat_take h i, List.set_eq_take_append_cons_drop, if_pos hi, List.flatten_append, List.flatten_cons, List.append_assoc]
end
end Go.Proofs.YtlifjlcfoeednaaDoor
end
section
namespace Go.Proofs.YtlifjlcfoeednaaDoor
open Go.RowKit
set_option linter.unusedVariables false
set_option maxRecDepth 20000

section
variable {P : Program} {w : World} {g : Nat}
/-- A part of a row is read. -/
theorem wpStill_val {ops : Array Oper} {rest : List Oper} {o : Oper} {a : Act} {Q : Act → Prop} {v : Value} (hgd : o.guard = none) (hr : (execOp a.eval o).run P w = .ok (.value v) w) (h : wpStill P ops w Q rest (a.put o.dst v)) : wpStill P ops w Q (o :: rest) a := by
  refine wpStill_step fun K hK => ?_
  have hw : Region.wanted o (yielded ops a.tmps) = true := by simp [Region.wanted, hgd]
  rw [if_pos hw]
  unfold Oper.still
  rw [hr]
  exact ⟨rfl, hK _ h⟩
theorem run_load_range {o : Oper} {a : Act} (ty : TypeId) (x : Operand) (ho : o.op = .load ty x) (k : Nat) (ps : List Value) (d : TypeDesc) (hx : a.eval x = .pointer (some ⟨g, k, none⟩)) (hr : w.rangeAt g k ps)
    (hu : P.underlying ty = some d) (hd : d.isRow = true) (hs : (P.info? ty).map (·.size) = some ps.length) : (execOp a.eval o).run P w = .ok (.value (.agg ps.toArray)) w := by
  unfold execOp
  simp only [ho, hx, Instr.loadAt, Instr.sureAddr, Sem.run_bind, Sem.run_pure, Result.andThen_ok, run_loadVar_mid w g k ty ps d hr hu hd hs]
end
theorem run_idxAt {P : Program} {w : World} {o : Oper} {a : Act} (sz : Nat) (ty e : TypeId) (x y : Operand) (ho : o.op = .indexAddr ty x y) (g off n c k : Nat) (hx : a.eval x = .slice (some ⟨g, off, none⟩) n c) (hy : a.eval y = .int .i64 (k : Int)) (hk : k < n)
    (hu : P.underlying ty = some (.slice e)) (hs : (P.info? e).map (·.size) = some sz) : (execOp a.eval o).run P w = .ok (.value (.pointer (some ⟨g, off + k * sz, none⟩))) w := by
  obtain ⟨f, hf, hz⟩ := Option.map_eq_some_iff.1 hs
  unfold execOp
  simp only [ho, hx, hy]
  simp [Instr.indexAt, asIntOf, run_underlying hu, sizeOf, typeInfo, hf, hz, hk, go_sem]
theorem run_idxAt0 {P : Program} {w : World} {o : Oper} {a : Act} (sz : Nat) (ty e : TypeId) (x y : Operand) (ho : o.op = .indexAddr ty x y) (g n c k : Nat) (hx : a.eval x = .slice (some ⟨g, 0, none⟩) n c) (hy : a.eval y = .int .i64 (k : Int)) (hk : k < n)
    (hu : P.underlying ty = some (.slice e)) (hs : (P.info? e).map (·.size) = some sz) : (execOp a.eval o).run P w = .ok (.value (.pointer (some ⟨g, k * sz, none⟩))) w := by
  have := run_idxAt (P := P) (w := w) sz ty e x y ho g 0 n c k hx hy hk hu hs
  rwa [Nat.zero_add] at this
/-- A slice of one element is built. -/
theorem wp_oneRow {P : Program} {w : World} {o : Oper} {a : Act} {K : Act → World → Prop} {Q : Exit → Act → World → Prop} (ty e : TypeId) (x : Operand) (ho : o.op = .buildSlice ty 1 #[(0, x)]) (cs : List Value) (sz bytes : Nat) (z : Value) (hx : a.eval x = .agg cs.toArray) (hl : cs.length = sz) (h0 : 0 < sz) (hsm : sz ≤ 16777216)
    (hu : P.underlying ty = some (.slice e)) (hinfo : (P.info? e).map (fun i => (i.zero, i.size, i.bytes)) = some (some z, sz, bytes))
    (h : ∀ g w', NewRow w g e cs.toArray w' → K (a.put o.dst (.slice (some ⟨g, 0, none⟩) 1 1)) w') : o.wp P a w K Q := by
  obtain ⟨ie, hie, hz0, hz1, hz2⟩ := info_parts hinfo
  refine wp_buildSlice ty e 1 _ ho cs.toArray ie z hu hie hz0 (by rw [hz1]; omega) (by rw [hz1]; omega) ?_ (h _ _ (NewRow.mk_ w e _))
  have hp : (#[((0 : Nat), x)].map fun (i, x) => (i, a.eval x)).toList = ([Value.agg cs.toArray].zipIdx 0).map fun x => (x.2, x.1) := by simp [hx]
  have he : some cs.toArray = some ([Value.agg cs.toArray].flatMap fun v => v.cells.toList).toArray := by
    rw [List.flatMap_cons, List.flatMap_nil, List.append_nil]
    rfl
  rw [hp, hz1, he]
  refine Great.fill_whole h0 _ _ (fun v hv => ?_) (by simp)
  obtain rfl : v = .agg cs.toArray := List.mem_singleton.1 hv
  show cs.toArray.size = sz
  rw [List.size_toArray, hl]
theorem wpList_oneRow {P : Program} {w : World} {ops : Array Oper} {rest : List Oper} {o : Oper} {a : Act} {Q : Exit → Act → World → Prop} (hgd : o.guard = none) (ty e : TypeId) (x : Operand) (ho : o.op = .buildSlice ty 1 #[(0, x)]) (cs : List Value) (sz bytes : Nat) (z : Value) (hx : a.eval x = .agg cs.toArray) (hl : cs.length = sz) (h0 : 0 < sz) (hsm : sz ≤ 16777216)
    (hu : P.underlying ty = some (.slice e)) (hinfo : (P.info? e).map (fun i => (i.zero, i.size, i.bytes)) = some (some z, sz, bytes))
    (h : ∀ g w', NewRow w g e cs.toArray w' → wpList P ops Q rest (a.put o.dst (.slice (some ⟨g, 0, none⟩) 1 1)) w') : wpList P ops Q (o :: rest) a w :=
  wpList_plain hgd fun _ hK => wp_oneRow ty e x ho cs sz bytes z hx hl h0 hsm hu hinfo fun g w' n => hK _ _ (h g w' n)
/-- A part of a row is written. -/
theorem wpList_storeRP {P : Program} {w : World} {ops : Array Oper} {rest : List Oper} {o : Oper} {a : Act} {Q : Exit → Act → World → Prop} (hgd : o.guard = none) (ty : TypeId) (x y : Operand) (ho : o.op = .store ty x y) (g k : Nat) (t : TypeId) (old cs : Array Value) (ps : List Value) (hx : a.eval x = .pointer (some ⟨g, k, none⟩)) (hy : a.eval y = .agg ps.toArray)
    (hr : RowAt w g t old) (hk : k + ps.length ≤ old.size) (hc : (old.toList.take k ++ ps ++ old.toList.drop (k + ps.length)).toArray = cs) (hs : (P.info? ty).map (·.size) = some ps.length) (h1 : ∀ u ∈ ps, u.oneCell' = true)
    (h : ∀ w', PutRow w g t cs w' → wpList P ops Q rest (a.put o.dst undef) w') : wpList P ops Q (o :: rest) a w := by
  refine wpList_plain hgd fun _ hK => ?_
  obtain ⟨f, hf, hz⟩ := Option.map_eq_some_iff.1 hs
  have hrun := run_storeCells_at (P := P) g k t ps 0 old w hr (by simpa using hk) h1
  rw [Nat.add_zero, hc] at hrun
  unfold Oper.wp execOp
  simp [ho, Instr.storeAt, Instr.sureAddr, storeVar, hx, hy, sizeOf, typeInfo, hf, hz, Value.cells, hrun]
  exact hK _ _ (h _ (setRow_put hr))
theorem wpStill_valG {P : Program} {w : World} {ops : Array Oper} {rest : List Oper} {o : Oper} {a : Act} {Q : Act → Prop} {v : Value} (hw : Region.wanted o (yielded ops a.tmps) = true) (hr : (execOp a.eval o).run P w = .ok (.value v) w) (h : wpStill P ops w Q rest (a.put o.dst v)) : wpStill P ops w Q (o :: rest) a := by
  refine wpStill_step fun K hK => ?_
  rw [if_pos hw]
  unfold Oper.still
  rw [hr]
  exact ⟨rfl, hK _ h⟩
theorem wpStill_skip {P : Program} {w : World} {ops : Array Oper} {rest : List Oper} {o : Oper} {a : Act} {Q : Act → Prop} (hw : Region.wanted o (yielded ops a.tmps) = false) (h : wpStill P ops w Q rest (a.put o.dst undef)) : wpStill P ops w Q (o :: rest) a := by
  refine wpStill_step fun K hK => ?_
  rw [if_neg (by rw [hw]; simp)]
  exact hK _ h
theorem run_idxArr {P : Program} {w : World} {o : Oper} {a : Act} (sz : Nat) (ty e : TypeId) (m : Nat) (x y : Operand) (ho : o.op = .indexAddr ty x y) (g off k : Nat) (kd : IntKind) (hx : a.eval x = .pointer (some ⟨g, off, none⟩)) (hy : a.eval y = .int kd (k : Int)) (hk : k < m)
    (hu : P.underlying ty = some (.array m e)) (hs : (P.info? e).map (·.size) = some sz) : (execOp a.eval o).run P w = .ok (.value (.pointer (some ⟨g, off + k * sz, none⟩))) w := by
  obtain ⟨f, hf, hz⟩ := Option.map_eq_some_iff.1 hs
  unfold execOp
  simp only [ho, hx, hy]
  simp [Instr.indexAt, asIntOf, run_underlying hu, sizeOf, typeInfo, hf, hz, hk, go_sem]
theorem run_idxArr0 {P : Program} {w : World} {o : Oper} {a : Act} (sz : Nat) (ty e : TypeId) (m : Nat) (x y : Operand) (ho : o.op = .indexAddr ty x y) (g k : Nat) (kd : IntKind) (hx : a.eval x = .pointer (some ⟨g, 0, none⟩)) (hy : a.eval y = .int kd (k : Int)) (hk : k < m)
    (hu : P.underlying ty = some (.array m e)) (hs : (P.info? e).map (·.size) = some sz) : (execOp a.eval o).run P w = .ok (.value (.pointer (some ⟨g, k * sz, none⟩))) w := by
  have := run_idxArr (P := P) (w := w) sz ty e m x y ho g 0 k kd hx hy hk hu hs
  rwa [Nat.zero_add] at this
/-! Parts of an array in a row, as slices. -/
section
variable {P : Program} {w : World} {o : Oper} {a : Act}
theorem run_slLH (sz : Nat) (ty e : TypeId) (m : Nat) (x lo hi : Operand) (ho : o.op = .slice ty x (some lo) (some hi) none) (g l h : Nat) (k1 k2 : IntKind) (hx : a.eval x = .pointer (some ⟨g, 0, none⟩)) (hl : a.eval lo = .int k1 (l : Int)) (hh : a.eval hi = .int k2 (h : Int)) (h1 : l ≤ h) (h2 : h ≤ m) (h3 : l < m)
    (hu : P.underlying ty = some (.array m e)) (hs : (P.info? e).map (·.size) = some sz) : (execOp a.eval o).run P w = .ok (.value (.slice (some ⟨g, l * sz, none⟩) (h - l) (m - l))) w := by
  obtain ⟨f, hf, hz⟩ := Option.map_eq_some_iff.1 hs
  have hlen : P.arrayLen ty = m := by simp [Program.arrayLen, hu]
  have hel : P.elem ty = e := by simp [Program.elem, hu]
  have hr := run_sliceAt_array_lh (P := P) w ty ⟨g, 0, none⟩ (by rw [hlen, hel]; exact hu) k1 k2 (l : Int) (h : Int) (by omega) (by omega) (by rw [hlen]; omega)
  have hadd : (⟨g, 0, none⟩ : Addr).add (l * sz) = ⟨g, l * sz, none⟩ := by unfold Addr.add; split <;> simp_all
  unfold execOp
  simp only [ho, hx, hl, hh, Option.map_some, Option.map_none, Sem.run_bind, hr]
  simp [hel, hlen, sizeOf, typeInfo, hf, hz, slicedAt, show ¬ m = l by omega, hadd]
theorem run_slH (sz : Nat) (ty e : TypeId) (m : Nat) (x hi : Operand) (ho : o.op = .slice ty x none (some hi) none) (g h : Nat) (k2 : IntKind) (hx : a.eval x = .pointer (some ⟨g, 0, none⟩)) (hh : a.eval hi = .int k2 (h : Int)) (h2 : h ≤ m) (h3 : 0 < m)
    (hu : P.underlying ty = some (.array m e)) (hs : (P.info? e).map (·.size) = some sz) : (execOp a.eval o).run P w = .ok (.value (.slice (some ⟨g, 0, none⟩) h m)) w := by
  obtain ⟨f, hf, hz⟩ := Option.map_eq_some_iff.1 hs
  have hlen : P.arrayLen ty = m := by simp [Program.arrayLen, hu]
  have hel : P.elem ty = e := by simp [Program.elem, hu]
  have hr := run_sliceAt_array_h (P := P) w ty ⟨g, 0, none⟩ (by rw [hlen, hel]; exact hu) k2 (h : Int) (by omega) (by rw [hlen]; omega)
  have hadd : (⟨g, 0, none⟩ : Addr).add 0 = ⟨g, 0, none⟩ := by unfold Addr.add; split <;> simp_all
  unfold execOp
  simp only [ho, hx, hh, Option.map_some, Option.map_none, Sem.run_bind, hr]
  simp [hel, hlen, sizeOf, typeInfo, hf, hz, slicedAt, show ¬ m = 0 by omega, hadd]
theorem run_slAll (sz : Nat) (ty e : TypeId) (m : Nat) (x : Operand) (ho : o.op = .slice ty x none none none) (g : Nat) (hx : a.eval x = .pointer (some ⟨g, 0, none⟩)) (h3 : 0 < m)
    (hu : P.underlying ty = some (.array m e)) (hs : (P.info? e).map (·.size) = some sz) : (execOp a.eval o).run P w = .ok (.value (.slice (some ⟨g, 0, none⟩) m m)) w := by
  obtain ⟨f, hf, hz⟩ := Option.map_eq_some_iff.1 hs
  have hlen : P.arrayLen ty = m := by simp [Program.arrayLen, hu]
  have hel : P.elem ty = e := by simp [Program.elem, hu]
  have hr := run_sliceAt_array_all (P := P) w ty ⟨g, 0, none⟩ (by rw [hlen, hel]; exact hu)
  have hadd : (⟨g, 0, none⟩ : Addr).add 0 = ⟨g, 0, none⟩ := by unfold Addr.add; split <;> simp_all
  unfold execOp
  simp only [ho, hx, Option.map_none, Sem.run_bind, hr]
  simp [hel, hlen, sizeOf, typeInfo, hf, hz, slicedAt, show ¬ m = 0 by omega, hadd]
/-- copy within a row. -/
theorem wp_copyRow {K : Act → World → Prop} {Q : Exit → Act → World → Prop} (d s : Operand) (dT sT : TypeId) (ho : o.op = .call { callee := .builtin .copy, args := #[d, s], argTypes := #[dT, sT] }) (elem : TypeId) (sz : Nat) (hu : P.underlying dT = some (.slice elem)) (hsz : (P.info? elem).map (·.size) = some sz)
    (g : Nat) (t : TypeId) (cs : Array Value) (hr : RowAt w g t cs) (kd nd cd ks ns cap2 n : Nat) (hd : a.eval d = .slice (some ⟨g, kd, none⟩) nd cd) (hs : a.eval s = .slice (some ⟨g, ks, none⟩) ns cap2) (hn : Nat.min ns nd = n)
    (ps : List Value) (hps : (cs.toList.drop ks).take (n * sz) = ps) (hpl : ps.length = n * sz) (h1 : ∀ u ∈ ps, u.oneCell' = true) (hk : kd + ps.length ≤ cs.size) (new : Array Value) (hnew : (cs.toList.take kd ++ ps ++ cs.toList.drop (kd + ps.length)).toArray = new)
    (h : ∀ w', PutRow w g t new w' → K (a.put o.dst (goInt n)) w') : o.wp P a w K Q := by
  have hl := run_loadCells_list (P := P) w ⟨g, ks, none⟩ ps (fun j v hv => by
    have hadd : (⟨g, ks, none⟩ : Addr).add j = ⟨g, ks + j, none⟩ := by unfold Addr.add; split <;> simp_all
    rw [hadd]
    have h2 := rangeAt_row (k := ks) (n := n * sz) hr
    rw [hps] at h2
    exact h2 j v hv)
  rw [hpl] at hl
  have hst := run_storeCells_at (P := P) g kd t ps 0 cs w hr (by simpa using hk) h1
  rw [Nat.add_zero, hnew] at hst
  have hrun : (Builtin.copy_ #[dT, sT] o.type #[.slice (some ⟨g, kd, none⟩) nd cd, .slice (some ⟨g, ks, none⟩) ns cap2]).run P w = .ok (goInt n) (w.setRow g new) := by
    obtain ⟨i, hi, hi2⟩ := Option.map_eq_some_iff.1 hsz
    simp [Builtin.copy_, run_underlying hu, Builtin.lenOf, Builtin.firstCells, sizeOf, typeInfo, hi, hi2, hn, hl, hst]
  unfold Oper.wp execOp
  simp only [ho, resolve, invoke, builtin, Sem.run_bind, Sem.run_pure, Result.andThen_ok, List.map_toArray, List.map_cons, List.map_nil, hd, hs, hrun]
  exact h _ (setRow_put hr)
/-- clear of a part of a row. -/
theorem wp_clearRow {K : Act → World → Prop} {Q : Exit → Act → World → Prop} (d : Operand) (dT : TypeId) (ho : o.op = .call { callee := .builtin .clear, args := #[d], argTypes := #[dT] }) (elem : TypeId) (z : Value) (hu : P.underlying dT = some (.slice elem)) (hzv : (P.info? elem).map (·.zero) = some (some z))
    (g : Nat) (t : TypeId) (cs : Array Value) (hr : RowAt w g t cs) (kd nd cd : Nat) (hd : a.eval d = .slice (some ⟨g, kd, none⟩) nd cd) (hpos : 0 < nd)
    (ps : List Value) (hps : (Builtin.zeroCells z.cells nd).toList = ps) (h1 : ∀ u ∈ ps, u.oneCell' = true) (hk : kd + ps.length ≤ cs.size) (new : Array Value) (hnew : (cs.toList.take kd ++ ps ++ cs.toList.drop (kd + ps.length)).toArray = new)
    (h : ∀ w', PutRow w g t new w' → K (a.put o.dst (.tuple #[])) w') : o.wp P a w K Q := by
  have hst := run_storeCells_at (P := P) g kd t ps 0 cs w hr (by simpa using hk) h1
  rw [Nat.add_zero, hnew] at hst
  obtain ⟨j, hj, hj2⟩ := Option.map_eq_some_iff.1 hzv
  have hrun : (Builtin.clear_ #[dT] o.type #[.slice (some ⟨g, kd, none⟩) nd cd]).run P w = .ok (.tuple #[]) (w.setRow g new) := by
    obtain ⟨m, rfl⟩ : ∃ m, nd = m + 1 := ⟨nd - 1, by omega⟩
    simp [Builtin.clear_, run_underlying hu, zeroValue, typeInfo, hj, hj2, hps, hst]
  unfold Oper.wp execOp
  simp only [ho, resolve, invoke, builtin, Sem.run_bind, Sem.run_pure, Result.andThen_ok, List.map_toArray, List.map_cons, List.map_nil, hd, hrun]
  exact h _ (setRow_put hr)
end
end Go.Proofs.YtlifjlcfoeednaaDoor
end
