/-
  Texts that belong together, merged: CodK, CodWr, IterN, VpB, VpC, VpD. Conditions: as each theorem names them.
-/
import Derived.Test.YtpgbicbjlhkonaaGreatDoorQVlpAL
import Derived.Test.YtpgbicbjlhkonaaGreatDoorQVlpAA
import Derived.RangeFuncNested
section
namespace Go.Proofs.YtpgbicbjlhkonaaGreatDoor
open Go.RowKit
set_option linter.unusedVariables false
set_option maxRecDepth 20000

theorem OutStep.kl {a b : World} {o : Nat} {v v' u : Value} {ls : List (List UInt8)} (h : OutStep a b o v v') (hb : Kl a u ls) (h1 : 0 < ls.length → ∀ k, u.ownBlock = some k → k ≠ o ∧ v.ownBlock ≠ some k) : Kl b u ls := by
  obtain ⟨A, c, rfl, q1, q2, q4, q3⟩ := hb
  refine ⟨A, c, rfl, q1, q2, q4, fun hl => ?_⟩
  obtain ⟨g, off, rfl, hc⟩ := q3 hl
  obtain ⟨h2, h3⟩ := h1 hl g rfl
  exact ⟨g, off, rfl, fun k l e j u hj => (World.cell?_of_block (a := ⟨g, off + k * 32 + j, none⟩) (h.block g (World.block_lt_of_cell? a _ (hc k l e j u hj)) h2 h3)).trans (hc k l e j u hj)⟩
theorem wpList_loadK {P : Program} {ops : Array Oper} {rest : List Oper} {o : Oper} {a : Act} {w : World} {Q : Exit → Act → World → Prop} (hgd : o.guard = none) (ty : TypeId) (x : Operand) (ho : o.op = .load ty x) (g k : Nat) (hx : a.eval x = .pointer (some ⟨g, k, none⟩)) (l : List UInt8) (d : TypeDesc) (hc : w.rangeAt g k (cellsB l))
    (hu : P.underlying ty = some d) (hd : d.isRow = true) (hs : (P.info? ty).map (·.size) = some (cellsB l).length) (h : wpList P ops Q rest (a.put o.dst (.agg (keyC l))) w) : wpList P ops Q (o :: rest) a w :=
  wpList_load_mid hgd ty x ho g k hx (cellsB l) d hc hu hd hs h
theorem St.put_put (s : St) (a b : List UInt8) : (s.put a).put b = s.put (a ++ b) := by
  unfold St.put
  by_cases h : s.e = 0
  · simp [h]
  · simp [h]
theorem flat_len32 (ls : List (List UInt8)) (h : ∀ l ∈ ls, l.length = 32) : ls.flatten.length = ls.length * 32 := flat_length ls h

set_option maxHeartbeats 2000000 in
theorem outKeys_any (w : World) (o : Nat) (v : Value) (s : St) (u : Value) (ls : List (List UInt8)) (h : OutAt w o v s) (hu : Kl w u ls) (hf : 0 < ls.length → Off o v u) (hs : s.l.length ≤ 1000000000) :
    Calls Tryz.prog 62 #[.pointer (some ⟨o, 0, none⟩), u] w fun e w' => e = .returned (.tuple #[]) ∧ ∃ v', OutAt w' o v' (s.wKey ls) ∧ OutStep w w' o v v' := by
  have HH := Lib.hid h
  have HU := Lib.hid hu
  have HF := Lib.hid hf
  obtain ⟨A, c, rfl, h1, h2, h4, h3⟩ := hu
  unfold maxLen at h2
  have H32 := Lib.hid h4
  clear h hf h4
  by_cases hb : ls.length > 100
  · have hb2 : (100 : Int) < (ls.length : Int) := by omega
    have E : Hid (s.wKey ls = s.fail 2) := by show _ = _; unfold St.wKey; rw [if_pos hb]
    have HX := Lib.hid (fun w h => outFail_any w o v s 2 h)
    clear h3
    go_enter Tryz.func62, Tryz.ntmps62
    go_wp2_with fail
    refine (HX.out _ HH.out).mono ?_
    intro e w1 hh
    obtain ⟨he, v1, h1, s1⟩ := hh
    subst he
    have H1 := Lib.hid h1
    have S1 := Lib.hid s1
    clear h1 s1
    go_wp2
    refine bodyPost_ret (results_none rfl _ _ _) rfl ?_
    exact ⟨rfl, v1, by rw [E.out]; exact H1.out, S1.out⟩
  · have hb2 : ¬ ((100 : Int) < (ls.length : Int)) := by omega
    have hw : IntKind.u64.wrap (ls.length : Int) = (ls.length : Int) := by rw [IntKind.wrap_u64]; omega
    have HN : Hid (∀ w, Calls Tryz.prog 84 #[.int .u64 (ls.length : Int), .int .i64 2] w (RetBs w (lowB ls.length 2).reverse)) := fun w => High_in w ls.length 2 (by omega) (by omega) (by omega)
    have LN : Hid ((lowB ls.length 2).reverse.length = 2) := by show _ = _; rw [List.length_reverse]; exact lowB_length _ _
    obtain ⟨hd, hhd⟩ : ∃ hd, hd = (lowB ls.length 2).reverse := ⟨_, rfl⟩
    have E : Hid (s.wKey ls = s.put (hd ++ ls.flatten)) := by show _ = _; unfold St.wKey; rw [if_neg hb, ← hhd, St.put_put]
    rw [← hhd] at HN LN
    have P1 := Lib.hid (fun w u h hu => outPut_any w o v s u hd h hu (by rw [LN.out]; omega))
    have P2 : Hid (∀ w v j l u, j < ls.length → l.length = 32 → OutAt w o v (s.put (hd ++ (ls.take j).flatten)) → Bs w u l → Calls Tryz.prog 83 #[.pointer (some ⟨o, 0, none⟩), u] w fun e w' => e = .returned (.tuple #[]) ∧ ∃ v', OutAt w' o v' ((s.put (hd ++ (ls.take j).flatten)).put l) ∧ OutStep w w' o v v') := fun w v j l u hj hl h hu => outPut_any w o v _ u l h hu (by
      have q1 := s.put_length (hd ++ (ls.take j).flatten)
      rw [List.length_append, LN.out, flat_len32 _ (fun l hl => H32.out l (List.mem_of_mem_take hl)), List.length_take_of_le (by omega)] at q1
      omega)
    clear hhd
    go_enter Tryz.func62, Tryz.ntmps62
    go_wp2_with fail
    refine (HN.out _).mono ?_
    intro e w1 hh
    obtain ⟨u1, he, hu1, b1⟩ := hh
    subst he
    have HU1 := Lib.hid hu1
    have B1 := Lib.hid b1
    obtain ⟨A1, c1, rfl, _, _, _⟩ := hu1
    clear b1
    go_wp2_with fail
    refine (P1.out _ _ (HH.out.kept B1.out) HU1.out).mono ?_
    intro e w2 hh
    obtain ⟨he, v2, h2, s2⟩ := hh
    subst he
    have S2 := Lib.hid ((OutStep.below B1.out).trans s2)
    have H2 : Hid (OutAt w2 o v2 (s.put (hd ++ (ls.take 0).flatten))) := by show OutAt _ _ _ _; rw [List.take_zero, List.flatten_nil, List.append_nil]; exact h2
    clear h2 s2 B1 HU1 HN P1
    go_wp2_with fail
    go_loopw [19] (fun i wr => ∃ (j : Nat) (v' : Value), j ≤ ls.length ∧ i = .int .i64 (j : Int) ∧ OutAt wr o v' (s.put (hd ++ (ls.take j).flatten)) ∧ OutStep w wr o v v') (fun i _ => ls.length - (intOf i).toNat)
    case atStart => exact ⟨0, v2, by omega, rfl, H2.out, S2.out⟩
    case round =>
      clear H2 S2
      obtain ⟨j, v', hj, rfl, hO, hS⟩ := hrel
      have HO := Lib.hid hO
      have HS := Lib.hid hS
      clear hO hS
      by_cases hlt : j < ls.length
      · have hlt2 : (j : Int) < (ls.length : Int) := by omega
        have hw1 : IntKind.i64.wrap ((j : Int) + 1) = (j : Int) + 1 := IntWalk.i64_in _ (by omega)
        have hq0 : ¬ ((j : Int) < 0) := by omega
        obtain ⟨l, hl⟩ : ∃ l, ls[j]? = some l := ⟨_, List.getElem?_eq_getElem hlt⟩
        have L32 : Hid (l.length = 32) := H32.out l (List.mem_of_getElem? hl)
        have HT : Hid (hd ++ (ls.take j).flatten ++ l = hd ++ (ls.take (j + 1)).flatten) := by
          show _ = _
          rw [List.take_add_one, hl, List.flatten_append, List.append_assoc]
          simp
        obtain ⟨A', c', he, _, _, _, hr⟩ := HS.out.kl HU.out HF.out
        injection he with e1 _ e3
        subst e1 e3
        obtain ⟨b, off, rfl, hr2⟩ := hr (by omega)
        have HR := Lib.hid (hr2 j l hl)
        have P2J := Lib.hid (fun w u h hu => P2.out w v' j l u hlt L32.out h hu)
        clear hr hr2 hl h3 P2
        go_wp2_with (first
          | (with_reducible refine wpList_loadK (o := ⟨some 22, _, _, _, _, _⟩) rfl 117 (.tmp 21) rfl b (off + j * 32) (by with_unfolding_all rfl) l (.array 32 5) (by with_unfolding_all exact HR.out) Tryz.underlying117 rfl (Tryz.sizeKeyM l L32.out) ?_)
          | ((with_reducible refine wpList_alloc_row (o := ⟨some 5, _, _, _, _, _⟩) rfl 117 rfl (keyC zeroKey) Tryz.zeroK ?_); intro g5 w5 n5)
          | ((with_reducible refine wpList_store_row (o := ⟨none, _, _, _, _, _⟩) rfl 117 (.tmp 5) (.tmp 22) rfl g5 117 (keyC zeroKey) (keyC l) (by with_unfolding_all rfl) (by with_unfolding_all rfl) n5.row (keyC_same zeroKey_length L32.out) (Tryz.sizeKey _ L32.out) (keyC_one _) ?_); intro w6 p6))
        have B6 := (laid_put n5 p6).1
        have HB6 := Lib.hid B6
        have R6 := Lib.hid (row_bs p6.row (by rw [L32.out]; unfold maxLen; omega))
        have SP := n5.spot
        rw [L32.out] at R6
        clear B6 n5 p6
        refine (P2J.out _ _ (HO.out.kept HB6.out) R6.out).mono ?_
        intro e w7 hh
        obtain ⟨he, v7, h7, s7⟩ := hh
        subst he
        rw [St.put_put, HT.out] at h7
        have H7 := Lib.hid h7
        have S7 := Lib.hid ((HS.out.trans (OutStep.below HB6.out)).trans s7)
        clear h7 s7 HR R6 HS HO P2J
        go_wp2_with fail
        go_roundw
        case rel => exact ⟨j + 1, v7, by omega, by go_num, H7.out, S7.out⟩
        case measure => simp [intOf]; omega
      · have hj2 : j = ls.length := by omega
        subst hj2
        rw [List.take_length] at HO
        go_wp2_with fail
        go_end0
        exact ⟨rfl, v', by rw [E.out]; exact HO.out, HS.out⟩
end Go.Proofs.YtpgbicbjlhkonaaGreatDoor
end
section
namespace Go.Proofs.YtpgbicbjlhkonaaGreatDoor
open Go.RowKit
set_option linter.unusedVariables false
set_option maxRecDepth 20000

/-- A slice of elements of sz cells each: element j has the cells f j. -/
def Rw (w : World) (v : Value) (sz n : Nat) (f : Nat → List Value) : Prop :=
  ∃ A c, v = .slice A n c ∧ n ≤ c ∧ c ≤ maxLen ∧ (0 < n → ∃ b off, A = some ⟨b, off, none⟩ ∧ ∀ j, j < n → w.rangeAt b (off + j * sz) (f j))
theorem Rw.below {w w' : World} {v : Value} {sz n : Nat} {f : Nat → List Value} (h : Rw w v sz n f) (hb : Below w.heap.size w w') : Rw w' v sz n f := by
  obtain ⟨A, c, hv, h1, h2, h3⟩ := h
  refine ⟨A, c, hv, h1, h2, fun hl => ?_⟩
  obtain ⟨b, off, hA, hc⟩ := h3 hl
  exact ⟨b, off, hA, fun j hj i u hu => (hb.cell (p := ⟨b, off + j * sz + i, none⟩) (World.block_lt_of_cell? w _ (hc j hj i u hu))).trans (hc j hj i u hu)⟩

theorem boxed_below {w w' : World} {g : Nat} {t : TypeId} {v : Value} (h : Boxed w g t v) (hb : Below w.heap.size w w') : Boxed w' g t v := (hb.block g (Array.getElem?_eq_some_iff.1 h).1).trans h
def kindsC : Array Value := #[.int .i64 1, .int .i64 2, .int .i64 4, .int .i64 8]
theorem numberKinds_row (w : World) : Calls Tryz.prog 98 #[] w fun e w' => ∃ g, e = .returned (.slice (some ⟨g, 0, none⟩) 4 4) ∧ RowAt w' g 3 kindsC ∧ Below w.heap.size w w' := by
  go_enter Tryz.func98, Tryz.ntmps98
  go_wp2
  go_ret
  exact ⟨_, rfl, RowAt.new w 3 kindsC, alloc_below _ _⟩
theorem own_off {w : World} {base n g sz : Nat} {e t : TypeId} {s : Value} {xs : List Value} {cs : Array Value} {f : Nat × Nat} (h : w.ownsRow base e sz s n xs) (hr : w.heap[g]? = some (.cells cs t f)) (ht : t ≠ e) : some g ≠ s.ownBlock := by
  rcases h.2 with ⟨rfl, _⟩ | ⟨k, cap, cur, rfl, _, hk, _⟩
  · simp [Value.ownBlock]
  · intro e2
    have : g = k := by simpa [Value.ownBlock] using e2
    subst this
    rw [hr] at hk
    injection hk with hk
    injection hk with h1 h2
    exact ht h2

end Go.Proofs.YtpgbicbjlhkonaaGreatDoor
end
section
namespace Go.Proofs.YtpgbicbjlhkonaaGreatDoor
open Go.RowKit
set_option linter.unusedVariables false

/-- The iterator's contract: J stands behind each round; it may say nothing that R turns. -/
def SeqN {α : Type} (F : Fence) (n : Nat) (P : Program) (g : Nat) (lb : Array Value) (encs : α → Array Value) (R Kp : World → World → Prop) (S Sp : List α → Prop) (Nx : List α → α → Prop) (w : World) : Prop :=
  ∀ (l : Nat) (J Jx : List α → World → Prop) (W : World), Below w.heap.size w W → AbidesFrom W.heap.size J → AbidesFrom W.heap.size Jx →
    (∀ s A B, J s A → R A B → J s B) → (∀ s A B, Jx s A → R A B → Jx s B) →
    (∀ pre x W1, J pre W1 → Nx pre x → YieldAt F (n - 1) P l (encs x) W1 fun e W' =>
      (e = .returned (.bool true) ∧ J (pre ++ [x]) W' ∧ Kp W1 W') ∨ (e = .returned (.bool false) ∧ Jx (pre ++ [x]) W')) →
    J [] W →
    CallsIn F n P g (#[.func (.yield l) #[] #[]] ++ lb) W fun e W' => (∃ v, e = .returned v) ∧ ((∃ xs, S xs ∧ J xs W') ∨ (∃ pre, Sp pre ∧ Jx pre W'))

variable {F : Fence} {n : Nat} {P : Program}

theorem wpIn_rangeFunc_N {α : Type} {g : Operand} {ps : Array Tmp} {assign body : Code} {Q : Exit → Act → World → Prop} {a : Act} {w : World}
    (hro : F.round = none) (h1 : 1 ≤ n) {gf : Nat} {lb : Array Value} (hg : a.eval g = .func (.func gf) #[] lb) (hFg : F.fn gf) (eg : ∀ args w, (callFunc gf args).run P w = .ok (.enter gf args) w)
    {encs : α → Array Value} {R Kp : World → World → Prop} {S Sp : List α → Prop} {Nx : List α → α → Prop} {w0 : World} (hseq : SeqN F (n - 1) P gf lb encs R Kp S Sp Nx w0)
    (hRk : ∀ A B, R A B → ∀ k o, w.heap.size ≤ k → A.heap[k]? = some o → o.isCells = false → B.heap[k]? = some o)
    (hKt : ∀ {A B C : World}, Kp A B → Kp B C → Kp A C) (hKb : ∀ (W : World) (l : Nat) (o o' : Obj), w.heap.size ≤ l → W.heap[l]? = some o → o.isCells = false → o.isWalk = false → Kp W (W.putObj l o')) (hb0 : Below w0.heap.size w0 w) (hps : ∀ x, (encs x).size = ps.size)
    (I : List α → World → Prop) (Ix : Code → List α → World → Prop) (hI : OwnFrom w.heap.size I) (hIx : ∀ c, OwnFrom w.heap.size (Ix c)) (hIR : ∀ s A B, I s A → R A B → I s B) (hIxR : ∀ c s A B, Ix c s A → R A B → Ix c s B) (h0 : I [] w)
    (Ax : α → Act → World → Prop) (hAx : ∀ x a', OwnFrom w.heap.size (fun (_ : Unit) W => Ax x a' W))
    (hassign : ∀ (l : Nat) (pre : List α) (x : α) (W : World) (K : Act → World → Prop), I pre W → (∀ a' W', KeepsFrom w.heap.size W W' → Kp W W' → I pre W' → Ax x a' W' → K a' W') →
      assign.wpIn (F.inRound l) (n - 1 - 1) P (Exit.then K (fun _ _ _ => False)) { tmps := (ps.zip (encs x)).foldl (fun t (p, v) => t.setIfInBounds p v) a.tmps, defers := [] } W)
    (hbody : ∀ (l : Nat) (pre : List α) (x : α) (a' : Act) (W : World), w.heap.size ≤ l → (∃ r, W.heap[l]? = some (.loop r)) → I pre W → Ax x a' W → Nx pre x → body.wpIn (F.inRound l) (n - 1 - 1) P (ownPostG w.heap.size Kp I Ix (pre ++ [x]) W) a' W)
    (hdone : ∀ (D : Nat) (xs : List α) (W : World), w.heap.size ≤ D → S xs → I xs W → W.heap[D]? = some (.deferred (some [])) → Q .normal { a with defers := { target := .collected D, args := #[] } :: a.defers } W)
    (hstop : ∀ (D : Nat) (c : Code) (pre : List α) (W : World), w.heap.size ≤ D → Sp pre → Ix c pre W → W.heap[D]? = some (.deferred (some [])) → c.wpIn F n P Q { a with defers := { target := .collected D, args := #[] } :: a.defers } W) :
    (Code.rangeFunc g ps assign body).wpIn F n P Q a w := by
  refine wpIn_rangeFunc fun fn hfn => ?_
  rw [hro]
  obtain ⟨B, hB⟩ : ∃ B, B = w.heap.size := ⟨_, rfl⟩
  obtain ⟨rec, hrec⟩ : ∃ rec : LoopState → Option Code → Loop, rec = fun st pe => { state := st, pending := pe, fn, tmps := a.tmps, params := ps, assign, body, defers := B } := ⟨_, rfl⟩
  obtain ⟨W1, hW1⟩ : ∃ W1, W1 = (w.alloc (.deferred (some []))).alloc (.loop (rec .ready none)) := ⟨_, rfl⟩
  have hD0 : W1.heap[B]? = some (.deferred (some [])) := by
    rw [hW1, hB]; exact (Below.heap_alloc _ _ _ (by simp)).trans (World.alloc_heap_new w _)
  have hL0 : W1.heap[B + 1]? = some (.loop (rec .ready none)) := by
    have := World.alloc_heap_new (w.alloc (.deferred (some []))) (.loop (rec .ready none)); rwa [World.size_alloc, ← hB, ← hW1] at this
  have hb1 : Below w.heap.size w W1 := by rw [hW1]; exact ((Below.refl _ w).alloc (Nat.le_refl _) _).alloc (by simp) _
  have hI0 : I [] W1 := by rw [hW1]; exact hI.alloc _ (hI.alloc _ h0)
  refine ⟨B + 1, [{ target := .collected B, args := #[] }], W1, { target := .fn (.func gf) lb, args := #[.func (.yield (B + 1)) #[] #[]] }, W1, gf, #[.func (.yield (B + 1)) #[] #[]] ++ lb, W1,
    by rw [hW1, hrec, hB]; exact run_enterLoop_outer _ _ _ _ _, by simp only [resolve, hg]; simp [go_sem], by intro f' hf'; simp [Target.leads] at hf'; subst hf'; exact hFg, by simp [invoke, go_sem, eg], fun _ => h1, ?_⟩
  have hWB : B + 2 ≤ W1.heap.size := by rw [hW1]; simp only [World.size_alloc]; omega
  clear hW1
  have hBle : w0.heap.size ≤ B := by rw [hB]; exact hb0.size
  have hsz : w.heap.size = B := hB.symm
  rw [hsz] at hI hRk hb1
  simp only [hsz] at hIx hKb hassign hbody hdone hstop hAx
  -- what the loop keeps of its own: its record in a state, and what it has deferred
  obtain ⟨At, hAt⟩ : ∃ At : LoopState → Option Code → World → Prop, At = fun st pe W => W.heap[B + 1]? = some (.loop (rec st pe)) ∧ W.heap[B]? = some (.deferred (some [])) := ⟨_, rfl⟩
  have keep : ∀ {st pe X Y} {row : Option Nat}, At st pe X → X.grownBy Y row → (∀ r, row = some r → W1.heap.size ≤ r ∧ ∃ o : Obj, X.heap[r]? = some o ∧ o.isWalk = true) → At st pe Y := by
    intro st pe X Y row hs hgr hr
    rw [hAt] at hs ⊢
    have far : ∀ k, k ≤ B + 1 → k < X.heap.size → Y.heap[k]? = X.heap[k]? := fun k hk hx => hgr.block k hx fun e => by have := (hr k e.symm).1; omega
    exact ⟨(far _ (Nat.le_refl _) (Array.getElem?_eq_some_iff.1 hs.1).1).trans hs.1, (far _ (Nat.le_succ _) (Array.getElem?_eq_some_iff.1 hs.2).1).trans hs.2⟩
  have keepR : ∀ {st pe X Y}, At st pe X → R X Y → At st pe Y := by
    intro st pe X Y hs hr
    rw [hAt] at hs ⊢
    exact ⟨hRk X Y hr _ _ (Nat.le_succ _) hs.1 rfl, hRk X Y hr _ _ (Nat.le_refl _) hs.2 rfl⟩
  have put : ∀ {st pe X} (st' : LoopState) (pe' : Option Code), At st pe X → At st' pe' (X.putObj (B + 1) (.loop (rec st' pe'))) := by
    intro st pe X st' pe' hs
    rw [hAt] at hs ⊢
    exact ⟨World.putObj_heap_same (Array.getElem?_eq_some_iff.1 hs.1).1, (World.putObj_heap_other (by omega)).trans hs.2⟩
  have keepF : ∀ {st pe X Y}, At st pe X → KeepsFrom B X Y → At st pe Y := by
    intro st pe X Y hs hk
    rw [hAt] at hs ⊢
    exact ⟨hk.same _ _ (Nat.le_succ _) hs.1 rfl, hk.same _ _ (Nat.le_refl _) hs.2 rfl⟩
  have loopOf : ∀ {st pe X}, At st pe X → X.heap[B + 1]? = some (.loop (rec st pe)) := fun hs => by rw [hAt] at hs; exact hs.1
  have defOf : ∀ {st pe X}, At st pe X → X.heap[B]? = some (.deferred (some [])) := fun hs => by rw [hAt] at hs; exact hs.2
  have at0 : At .ready none W1 := by rw [hAt]; exact ⟨hL0, hD0⟩
  have cells : ∀ {X Y : World} {row : Option Nat}, (∀ r, row = some r → W1.heap.size ≤ r ∧ ∃ o : Obj, X.heap[r]? = some o ∧ o.isWalk = true) → (∀ r, row = some r → B ≤ r ∧ ∃ o : Obj, X.heap[r]? = some o ∧ o.isCells = false) :=
    fun hr r e => by obtain ⟨hb, o, ho, hw⟩ := hr r e; exact ⟨by omega, o, ho, Obj.not_cells_of_walk hw⟩
  have hb01 : Below w0.heap.size w0 W1 := hb0.trans (hb1.mono hBle)
  clear hAt hL0 hD0
  refine (hseq (B + 1) (fun pre W => I pre W ∧ At .ready none W) (fun pre W => ∃ c, Ix c pre W ∧ At .done (some c) W) W1 hb01
    (fun s X Y row hs hgr hr => ⟨hI s X Y row hs.1 hgr (cells (Y := Y) hr), keep hs.2 hgr hr⟩)
    (fun s X Y row ⟨c, hs⟩ hgr hr => ⟨c, hIx c s X Y row hs.1 hgr (cells (Y := Y) hr), keep hs.2 hgr hr⟩)
    (fun s X Y hs hr => ⟨hIR s X Y hs.1 hr, keepR hs.2 hr⟩) (fun s X Y ⟨c, hs⟩ hr => ⟨c, hIxR c s X Y hs.1 hr, keepR hs.2 hr⟩) ?_ ⟨hI0, at0⟩).mono ?_
  · rintro pre x X ⟨hi, hat⟩ hlen
    have hy := run_yield (P := P) (args := encs x) (loopOf hat) (by rw [hrec]; exact hps x)
    rw [hrec] at hy
    refine ⟨fn, _, assign, body, hy, roundIn_of_wpIn hfn (hassign _ pre x X _ hi fun a' X2 hkf hkp hi2 hax => ?_)⟩
    have hat2 := keepF hat hkf
    refine ⟨_, run_beginRound (loopOf hat2) (by rw [hrec]), ?_⟩
    have hat3 := put .busy none hat2
    have hkb := hKb X2 (B + 1) _ (.loop (rec .busy none)) (Nat.le_succ _) (loopOf hat2) rfl rfl
    have hi3 := hI.putObj (.loop (rec .busy none)) hi2 (Nat.le_succ _) (loopOf hat2) rfl
    have hax3 := (hAx x a').putObj (s := ()) (.loop (rec .busy none)) hax (Nat.le_succ _) (loopOf hat2) rfl
    have hB3 := hbody (B + 1) pre x a' (X2.putObj (B + 1) (.loop (rec .busy none))) (Nat.le_succ _) ⟨_, loopOf hat3⟩ hi3 hax3 hlen
    have ends : ∀ (jump : Option Code) (Y : World), At .busy none Y → (Instr.endRound (B + 1) jump).run P Y = .ok (.bool jump.isNone) (Y.putObj (B + 1) (.loop (rec (if jump.isNone then .ready else .done) jump))) := fun jump Y hY => by
      have := run_endRound (P := P) jump (loopOf hY)
      rw [hrec] at this ⊢
      exact this
    rw [show ({ rec LoopState.ready none with state := LoopState.busy } : Loop) = rec .busy none by rw [hrec]]
    refine wpIn_mono hB3 ?_
    rintro e a3 Y hp
    have left : ∀ c : Code, KeepsFrom B (X2.putObj (B + 1) (.loop (rec .busy none))) Y → Ix c (pre ++ [x]) Y →
        ∃ W', (Instr.endRound (B + 1) (some c)).run P Y = .ok (.bool false) W' ∧ ∃ c', Ix c' (pre ++ [x]) W' ∧ At .done (some c') W' := fun c hk hx => by
      have hY := keepF hat3 hk
      exact ⟨_, ends (some c) Y hY, c, (hIx c).putObj _ hx (Nat.le_succ _) (loopOf hY) rfl, put .done (some c) hY⟩
    cases e with
    | normal =>
      obtain ⟨hk3, hkp3, hi4⟩ := hp
      have hY := keepF hat3 hk3
      exact ⟨_, _, ends none Y hY, .inl ⟨rfl, ⟨hI.putObj _ hi4 (Nat.le_succ _) (loopOf hY) rfl, put .ready none hY⟩, hKt hkp (hKt (hKt hkb hkp3) (hKb Y (B + 1) _ _ (Nat.le_succ _) (loopOf hY) rfl rfl))⟩⟩
    | ret =>
      obtain ⟨_, h1, h3⟩ := left .ret hp.1 hp.2
      exact ⟨_, _, h1, .inr ⟨rfl, h3⟩⟩
    | exit id =>
      obtain ⟨_, h1, h3⟩ := left (.exit id) hp.1 hp.2
      exact ⟨_, _, h1, .inr ⟨rfl, h3⟩⟩
    | goto t =>
      obtain ⟨_, h1, h3⟩ := left (.goto t) hp.1 hp.2
      exact ⟨_, _, h1, .inr ⟨rfl, h3⟩⟩
    | panic ch => exact hp.elim
    | outgrown => exact hp.elim
  · rintro e W2 ⟨⟨v, rfl⟩, (⟨xs, hS, hi, hat⟩ | ⟨pre, hSp, c, hi, hat⟩)⟩
    · exact ⟨none, _, by have := run_endLoop (P := P) (loopOf hat) (by rw [hrec]; simp); rw [hrec] at this; exact this, hdone _ xs _ (Nat.le_refl _) hS (hI.putObj _ hi (Nat.le_succ _) (loopOf hat) rfl) ((World.putObj_heap_other (by omega)).trans (defOf hat))⟩
    · exact ⟨some c, _, by have := run_endLoop (P := P) (loopOf hat) (by rw [hrec]; simp); rw [hrec] at this; exact this, hstop _ c pre _ (Nat.le_refl _) hSp ((hIx c).putObj _ hi (Nat.le_succ _) (loopOf hat) rfl) ((World.putObj_heap_other (by omega)).trans (defOf hat))⟩
end Go.Proofs.YtpgbicbjlhkonaaGreatDoor
end
section
namespace Go.Proofs.YtpgbicbjlhkonaaGreatDoor
open Go.RowKit Go.Shelf
attribute [local go_sem] Oper.semAt_some
set_option linter.unusedVariables false
set_option maxRecDepth 20000

def slotL (g A N : Nat) : Array Value := #[.pointer (some ⟨g, 0, none⟩), .int .i64 (A : Int), .int .i64 (N : Int)]
theorem Tryz.sizeSlot (g A N : Nat) : (Tryz.prog.info? 84).map (·.size) = some (slotL g A N).size := (by kernel_rfl : (Tryz.prog.info? 84).map (·.size) = some 3)
theorem not_slot : ¬ VTy 84 := by unfold VTy; decide

set_option maxHeartbeats 400000 in
theorem sectors_any (w : World) (g A N : Nat) :
    Calls Tryz.prog 59 #[.agg (slotL g A N)] w fun e w' => ∃ gs, e = .returned (.func (.func 80) #[] #[.pointer (some ⟨gs, 0, none⟩)]) ∧ RowAt w' gs 84 (slotL g A N) ∧ w.heap.size ≤ gs ∧ Below w.heap.size w w' := by
  go_enter Tryz.func59, Tryz.ntmps59
  go_wp2_with ((with_reducible refine wpList_box_row (o := ⟨some 1, _, _, _, _, _⟩) rfl 84 (.tmp 0) rfl (slotL g A N) (by with_unfolding_all rfl) ?_); intro g1 w1 n1)
  go_ret
  exact ⟨g1, rfl, n1.row, Nat.le_of_eq n1.spot.symm, n1.below⟩

/-- A call within a round. -/
theorem calls_round {P : Program} {f : FuncId} {args : Array Value} {w : World} {R : Ending → World → Prop} {l n : Nat} (h : Calls P f args w R) : CallsIn (Fence.wide.inRound l) n P f args w R := by
  have h2 : CallsIn Fence.wide n P f args w R := callsIn_wide.2 h
  exact h2
/-- What is told next: the next sector. -/
def NxS (N : Nat) (pre : List Nat) (x : Nat) : Prop := x = pre.length ∧ x ≤ N
set_option maxHeartbeats 2000000 in
theorem sectors1_tells (n : Nat) (hn : 1 ≤ n) (gs g A N : Nat) (hA : A ≤ 1000000) (hN : N ≤ 1000000) (w : World) (env : RowAt w gs 84 (slotL g A N)) :
    SeqN Fence.wide n Tryz.prog 80 #[.pointer (some ⟨gs, 0, none⟩)]
      (fun x : Nat => #[.int .i64 (x : Int), .int .i64 ((A : Int) + (x : Int))]) (fun _ _ => False) (KeepsAt (fun k => k = gs)) (fun ys => ys = List.range (N + 1)) (fun pre => ∃ k, 1 ≤ k ∧ k ≤ N + 1 ∧ pre = List.range k) (NxS N) w := by
  intro l J Jx W hW hJ hJx _ _ hY h0
  have env0 : RowAt W gs 84 (slotL g A N) := env.kept hW
  have EV := Lib.hid env0
  have HY := Lib.hid hY
  clear env hW hJ hJx hY
  have c2 : W.cell? ⟨gs, 2, none⟩ = some (.int .i64 (N : Int)) := env0.cell 2
  have w1 : IntKind.i64.wrap ((N : Int) + 1) = (N : Int) + 1 := IntWalk.i64_in _ (by omega)
  clear env0
  refine callsIn_of_wp Tryz.func80 rfl trivial ?_ rfl
  simp only [Tryz.ntmps80, List.size_toArray, List.length_cons, List.length_nil, Nat.reduceAdd, Nat.reduceSub, Array.replicate_succ, Array.replicate_zero, List.push_toArray, List.append_toArray, List.nil_append, List.cons_append]
  gi_wp2
  clear c2
  gi_loopw [7] (fun i wr => ∃ k : Nat, k ≤ N + 1 ∧ i = .int .i64 k ∧ J (List.range k) wr ∧ RowAt wr gs 84 (slotL g A N)) (fun i _ => N + 1 - (intOf i).toNat)
  case atStart => exact ⟨0, Nat.zero_le _, rfl, h0, EV.out⟩
  case round =>
    clear h0 EV
    obtain ⟨k, hkN, rfl, hJs, hev⟩ := hrel
    have EV := Lib.hid hev
    have HJs := Lib.hid hJs
    clear hev hJs
    by_cases hlt : k < N + 1
    · have c1 : wr.cell? ⟨gs, 1, none⟩ = some (.int .i64 (A : Int)) := EV.out.cell 1
      have w2 : IntKind.i64.wrap ((A : Int) + (k : Int)) = (A : Int) + (k : Int) := IntWalk.i64_in _ (by omega)
      have hlt2 : (k : Int) < (N : Int) + 1 := by omega
      obtain ⟨fn, tmps, assign, body, hy, hR⟩ := HY.out _ k wr HJs.out ⟨by simp, by omega⟩
      have HJ3 : Hid (List.range k ++ [k] = List.range (k + 1)) := List.range_succ.symm
      gi_wp2
      refine hR.mono ?_
      rintro e W3 (⟨rfl, hJ3, hk3⟩ | ⟨rfl, hJx3⟩)
      · have EV3 := Lib.hid ((hk3 gs rfl).trans EV.out : RowAt W3 gs 84 (slotL g A N))
        rw [HJ3.out] at hJ3
        have HJ4 := Lib.hid hJ3
        clear hJ3 hk3
        gi_wp2
        go_roundw
        case rel => exact ⟨k + 1, by omega, by go_num, HJ4.out, EV3.out⟩
        case measure => simp [intOf]; omega
      · rw [HJ3.out] at hJx3
        have HJ4 := Lib.hid hJx3
        clear hJx3
        gi_wp2
        refine bodyPost_ret (results_none rfl _ _ _) rfl ?_
        exact ⟨⟨_, rfl⟩, .inr ⟨_, ⟨k + 1, by omega, by omega, rfl⟩, HJ4.out⟩⟩
    · have hkN2 : k = N + 1 := by omega
      have HJ5 : Hid (J (List.range (N + 1)) wr) := by rw [← hkN2]; exact HJs
      have hlt2 : ¬ (k : Int) < (N : Int) + 1 := by omega
      clear hkN2 HJs
      gi_wp2
      go_end0
      exact ⟨⟨_, rfl⟩, .inl (by rw [← List.range_succ]; exact HJ5.out)⟩
section
variable {F : Nat → Prop} {x w : World} {gm g M : Nat} {d : Dev}
theorem read_sec {d : Dev} (h : d.Ok) (i : Nat) : d.readB (i : Int) = sec d.now i := by
  unfold sec
  by_cases hi : i < d.now.length
  · rw [Dev.readB_in hi]
    simp [List.getD, hi]
  · have : d.has (i : Int) = false := by
      unfold Dev.has
      rw [decide_eq_false (p := (i : Int) < (d.now.length : Int)) (by omega), Bool.and_false]
    unfold Dev.readB
    rw [this]
    simp [List.getD, List.getElem?_eq_none (Nat.le_of_not_lt hi)]
set_option maxHeartbeats 2000000 in
theorem slotRead_any (h : VS F x gm g M d w) (A n : Nat) (hn : n ≤ 200) (hlen : A + (n + 1) ≤ d.now.length) :
    Calls Tryz.prog 67 #[.agg (slotL g A n)] w fun e w' => ∃ v, e = .returned v ∧ OwnB w' w.heap.size 5 v (slotB d.now A n) ∧ Below w.heap.size w w' := by
  have hmost := h.ok.most
  have HR : Hid (∀ (i : Nat) y, VS F x gm g M d y → Calls Tryz.prog 26 #[.pointer (some ⟨g, 0, none⟩), .int .i64 ((A : Int) + (i : Int))] y fun e z => ∃ v, e = .returned (.tuple #[v, .int .i64 (d.readE ((A : Int) + (i : Int)))]) ∧ OwnB z y.heap.size 5 v (sec d.now (A + i)) ∧ Below y.heap.size y z) := fun i y h => by
    rw [← read_sec h.ok (A + i), show ((A + i : Nat) : Int) = (A : Int) + (i : Int) by omega]
    exact h.read _
  have HL : Hid (∀ k, A + k ≤ d.now.length → (secsB d.now A k).length = 256 * k) := fun k hk => secsB_length h.ok.now A k hk
  have HLS : Hid (∀ i, i < d.now.length → (sec d.now i).length = 256) := fun i hi => sec_len h.ok.now hi
  have HH := Lib.hid h
  have HF : Hid (slotB d.now A n = secsB d.now A (n + 1)) := rfl
  rw [HF.out]
  clear h HF
  refine (callsIn_wide (n := 3)).1 ?_
  refine callsIn_of_wp_marks Tryz.func67 rfl trivial ?_ rfl
  simp only [Tryz.ntmps67, List.size_toArray, List.length_cons, List.length_nil, Nat.reduceAdd, Nat.reduceSub, Array.replicate_succ, Array.replicate_zero, List.push_toArray, List.append_toArray, List.nil_append, List.cons_append]
  refine wpIn_wide.2 ?_
  go_wp2_with (first
    | ((with_reducible refine wpList_box_row (o := ⟨some 1, _, _, _, _, _⟩) rfl 84 (.tmp 0) rfl (slotL g A n) (by with_unfolding_all rfl) ?_); intro g1 w1 n1; have R1 := Lib.hid n1.row; have B1 := Lib.hid n1.below; clear n1)
    | (with_reducible refine wpList_load_row (o := ⟨some 8, _, _, _, _, _⟩) rfl 84 (.tmp 1) rfl g1 (by with_unfolding_all rfl) 84 (slotL g A n) (0, 0) _ (by with_unfolding_all exact R1.out.alloc _) Tryz.underlying84 rfl (Tryz.sizeSlot g A n) ?_))
  obtain ⟨gO, hgO⟩ : ∃ gO, gO = w1.heap.size := ⟨_, rfl⟩
  obtain ⟨w2, hw2⟩ : ∃ w2, w2 = w1.alloc (.cells #[.slice none 0 0] 38) := ⟨_, rfl⟩
  have BO2 : Hid (Boxed w2 gO 38 (.slice none 0 0)) := by show Boxed _ _ _ _; rw [hw2, hgO]; exact Boxed.new w1 _ _
  have B2 : Hid (Below w.heap.size w w2) := by show Below _ _ _; rw [hw2]; exact below_size B1.out (alloc_below _ _)
  have R2 : Hid (RowAt w2 g1 84 (slotL g A n)) := by show RowAt _ _ _ _; rw [hw2]; exact R1.out.alloc _
  have hgw : w.heap.size ≤ gO := by rw [hgO]; exact B1.out.size
  rw [← hw2, ← hgO]
  clear hw2 hgO B1 R1
  refine (sectors_any w2 g A n).mono ?_
  rintro e w5 ⟨gs, rfl, es, hgs, b5⟩
  have EV := Lib.hid es
  have BO5 := Lib.hid (boxed_below BO2.out b5)
  have R5 := Lib.hid (R2.out.kept b5)
  have B5 := Lib.hid (below_size B2.out b5)
  have hgO2 : gO ≠ gs := fun e => by
    have := (Array.getElem?_eq_some_iff.1 BO2.out).1
    omega
  have hsl := es.lt
  have hg1s : g1 ≠ gO := fun e => by
    have h1 := BO5.out
    rw [← e] at h1
    exact absurd (row_typed (show RowAt w5 g1 38 #[.slice none 0 0] from h1) R5.out) (by decide)
  clear es b5 BO2 R2 B2
  go_wp2_with fail
  refine (wpIn_wide (n := 3)).1 ?_
  refine wpIn_rangeFunc_N (F := Fence.wide) rfl (by omega) (gf := 80) (lb := #[.pointer (some ⟨gs, 0, none⟩)]) rfl trivial (enters_of Tryz.func80 (by kernel_rfl) rfl)
    (sectors1_tells 2 (by omega) gs g A n (by omega) (by omega) w5 EV.out) (fun _ _ h => h.elim) keepsAt_t (keepsAt_b (fun k hk => hk ▸ hsl)) (Below.refl _ _) (fun _ => rfl)
    (fun pre W => ∃ v, (Boxed W gO 38 v ∧ Below w.heap.size w W) ∧ (RowAt W g1 84 (slotL g A n) ∧ OwnB W w.heap.size 5 v (secsB d.now A pre.length) ∧ RowAt W gs 84 (slotL g A n)))
    (fun _ _ _ => False)
    ?hI
    (fun _ _ _ _ _ hs _ _ => hs) (fun _ _ _ _ h => h.elim) (fun _ _ _ _ _ h => h.elim)
    ⟨_, ⟨BO5.out, B5.out⟩, R5.out, OwnB.nil _ _ _, EV.out⟩
    (fun x a' W => a' = { tmps := #[.agg (slotL g A n), .pointer (some ⟨g1, 0, none⟩), .slice none 0 0, .pointer (some ⟨gO, 0, none⟩), undef, .int .i64 ((A : Int) + (x : Int)), undef, undef, .agg (slotL g A n), .func (.func 80) #[] #[.pointer (some ⟨gs, 0, none⟩)], .int .i64 (x : Int), .int .i64 ((A : Int) + (x : Int)), undef, undef, undef, undef, undef, undef, undef, undef, undef, undef, undef], defers := [] })
    (fun x a' _ X Y row hs hg hr => hs)
    ?assign ?body ?done ?stop
  case hI =>
    rintro s X Y row ⟨v, ⟨i1, i2⟩, i3, i4, i5⟩ hg hr
    have hO := BO5.out.lt
    have hg1l := R5.out.lt
    have hne : ∀ k, k < w5.heap.size → some k ≠ row := fun k hk e => by have := (hr k e.symm).1; omega
    exact ⟨v, ⟨i1.kept hg (hne gO hO), ownFrom_below (β := Unit) (Nat.le_refl _) B5.out.size () X Y row i2 hg hr⟩, i3.grown hg (hne g1 hg1l), i4.grown hg (fun r e => (hr r e).2), i5.grown hg (hne gs hsl)⟩
  case assign =>
    rintro lo pre x W K hI hK
    gi_wp2
    exact hK _ _ ((KeepsOthers.of_below (Below.refl _ _)).from _) (KeepsAt.refl _ _) hI rfl
  case body =>
    rintro lo pre x a' W hlo hrec ⟨v, ⟨hO, hB⟩, hR1, hW, hE⟩ rfl ⟨hx, hxn⟩
    have cg : W.cell? ⟨g1, 0, none⟩ = some (.pointer (some ⟨g, 0, none⟩)) := hR1.cell 0
    have HO := Lib.hid hO
    have HB := Lib.hid hB
    have HR1 := Lib.hid hR1
    have HW := Lib.hid hW
    have HE := Lib.hid hE
    have HX := Lib.hid hx
    clear hO hB hR1 hW hE hrec hx
    gi_wp2
    refine ⟨trivial, ?_⟩
    refine (calls_round (HR.out x W (HH.out.kept HB.out))).mono ?_
    rintro e W1 ⟨v1, rfl, o1, b1⟩
    have O1 := Lib.hid (boxed_below HO.out b1)
    have B1 := Lib.hid (below_size HB.out b1)
    have R1 := Lib.hid (HR1.out.kept b1)
    have W1_ := Lib.hid (HW.out.below b1)
    have E1 := Lib.hid (HE.out.kept b1)
    have S1 := Lib.hid o1.bs
    have HBL := Lib.hid b1
    have hsz1 := b1.size
    clear o1 b1 HO HB HR1 HW
    have c2 := O1.out.cell
    obtain ⟨VA, vc, rfl, hv1, hv2⟩ := W1_.out.shape
    obtain ⟨UA, uc, rfl, _⟩ := S1.out.shape2
    have HSB : Hid (secsB d.now A (pre ++ [x]).length = secsB d.now A pre.length ++ sec d.now (A + x)) := by
      show _ = _
      rw [List.length_append, List.length_singleton, secsB_succ, HX.out]
    have hys : (secsB d.now A pre.length).length ≤ 60000 := by
      rw [HL.out pre.length (by have := HX.out; omega)]
      have := HX.out
      omega
    have hxs : (sec d.now (A + x)).length = 256 := HLS.out _ (by omega)
    generalize secsB d.now A pre.length = ys at W1_ HSB hys hv1 O1 c2 ⊢
    generalize sec d.now (A + x) = xs at S1 HSB hxs ⊢
    obtain ⟨ky, hky⟩ : ∃ ky, ky = ys.length := ⟨_, rfl⟩
    rw [← hky] at W1_ hys hv1 O1 c2
    have HKY := Lib.hid hky
    clear hky
    rw [hxs] at S1 ⊢
    gi_wp2_with ((with_reducible refine list_round (o := ⟨some 21, _, _, _, _, _⟩) rfl (fun c hc => by cases hc) fun KK hKK => wp_appG (.tmp 19) (.tmp 20) 38 rfl w.heap.size 5 Tryz.infoB Tryz.underlying38 (.slice VA ky vc) (.slice UA 256 uc) ys xs (by with_unfolding_all rfl) (by with_unfolding_all rfl) W1_.out S1.out (by have := HKY.out; omega) B1.out.size ?_); intro v' W2 o2 g2; refine hKK _ _ ?_; clear hKK KK; have hne := W1_.out.other (show W1.heap[gO]? = _ from O1.out) (by decide); have O2 := Lib.hid (O1.out.kept g2 hne); have c3 := O2.out.cell; have f3 := O2.out.frozen; have G2 := Lib.hid g2; have W2_ := Lib.hid o2; obtain ⟨VB, vd, rfl, _⟩ := o2.shape; clear o2 g2)
    have hg1n := W1_.out.other (show W1.heap[g1]? = _ from R1.out) (by decide)
    have hgsn := W1_.out.other (show W1.heap[gs]? = _ from E1.out) (by decide)
    have hgs2 := grownBy_setCell' W2 gO (.slice VB (ys.length + 256) vd)
    have E3 : RowAt (W2.setCell ⟨gO, 0, none⟩ (.slice VB (ys.length + 256) vd)) gs 84 (slotL g A n) := (E1.out.grown G2.out hgsn).grown hgs2 (by intro e; injection e with e; exact hgO2 e.symm)
    have hko : KeepsOthers W1 W2 := KeepsOthers.of_grownBy G2.out (fun j o ej hj => by
      obtain ⟨cur, hc⟩ := W1_.out.spot ej
      rw [hj] at hc
      cases hc
      rfl)
    have hle : (ys ++ xs).length = ys.length + 256 := by rw [List.length_append, hxs]
    rw [hle] at W2_
    refine ⟨(((KeepsOthers.of_below HBL.out).trans hko).trans (KeepsOthers.setCell _ _ _)).from _, fun k hk => by subst hk; exact E3.trans HE.out.symm, _, ⟨O2.out.set _, ?_⟩, (R1.out.grown G2.out hg1n).grown hgs2 (by intro e; injection e with e; exact hg1s e), ?_, E3⟩
    · exact (B1.out.grown G2.out B1.out.size W1_.out.rows).setCell (by show w.heap.size ≤ gO; exact hgw) _
    · rw [HSB.out]
      exact World.ownsRow.kept W2_.out hgs2 (.inr fun e => W2_.out.other (show W2.heap[gO]? = _ from O2.out) (by decide) e.symm)
  case done =>
    rintro D xs W hD rfl ⟨v, ⟨hO, hB⟩, hR1, hW, hE⟩ hK
    rw [List.length_range] at hW
    obtain ⟨bs, hbs⟩ : ∃ bs, bs = secsB d.now A (n + 1) := ⟨_, rfl⟩
    rw [← hbs] at hW
    have HBS := Lib.hid hbs
    have HW := Lib.hid hW
    have HB := Lib.hid hB
    have HKD := Lib.hid hK
    obtain ⟨VA, vc, rfl, _⟩ := hW.shape
    have c1 := hO.cell
    clear hW hB hO hR1 hE hbs
    go_wp2
    refine ⟨by simp, .inl ⟨_, _, rfl, run_takeDeferred hK, ?_⟩⟩
    have hD2 : ∀ r, some D = some r → ∃ o : Obj, W.heap[r]? = some o ∧ o.isCells = false := by
      rintro r e
      cases e
      exact ⟨_, HKD.out, rfl⟩
    exact ⟨_, results_tmp rfl _ _ _, .slice VA bs.length vc, rfl, HBS.out ▸ HW.out.grown (grownBy_putObj' W D _) hD2, HB.out.trans (belowK_b (w := w) (Nat.le_refl _) W D _ _ (by have := B5.out.size; omega) hK rfl rfl)⟩
  case stop =>
    rintro D c pre W _ _ h _
    exact h.elim
end
end Go.Proofs.YtpgbicbjlhkonaaGreatDoor
end
section
namespace Go.Proofs.YtpgbicbjlhkonaaGreatDoor
open Go.RowKit
set_option linter.unusedVariables false
set_option maxRecDepth 20000

set_option maxHeartbeats 400000 in
theorem notZero_any (w : World) (x : UInt8) : Calls Tryz.prog 89 #[.int .u8 (x.toNat : Int)] w fun e w' => e = .returned (.bool (!(x == 0))) ∧ w = w' := by
  have HD : Hid (((x.toNat : Int) != 0) = !(x == 0)) := by
    show _ = _
    by_cases hx : x = 0
    · subst hx; rfl
    · have hxn : x.toNat ≠ 0 := fun e => hx (UInt8.toNat_inj.1 (by rw [e]; rfl))
      rw [beq_false_of_ne hx, bne_iff_ne.2 (show (x.toNat : Int) ≠ 0 by omega)]
      rfl
  go_enter Tryz.func89, Tryz.ntmps89
  go_wp2
  go_ret
  exact ⟨congrArg (fun b => Ending.returned (.bool b)) HD.out, rfl⟩
set_option maxHeartbeats 1000000 in
theorem IndexFunc_any (w : World) (v : Value) (l : List UInt8) (h : Bs w v l) :
    Calls Tryz.prog 106 #[v, .func (.func 89) #[] #[]] w fun e w' => ∃ r : Int, e = .returned (.int .i64 r) ∧ (decide (0 ≤ r) = !(l.all (· == 0))) ∧ w = w' := by
  obtain ⟨A, c, rfl, h1, h2, h3⟩ := h
  unfold maxLen at h2
  go_enter Tryz.func106, Tryz.ntmps106
  go_wp2
  go_loopw [8] (fun i wr => ∃ j : Nat, j ≤ l.length ∧ i = .int .i64 (j : Int) ∧ wr = w ∧ Hid ((l.take j).all (· == 0) = true)) (fun i _ => l.length - (intOf i).toNat)
  case atStart => exact ⟨0, by omega, rfl, rfl, rfl⟩
  case round =>
    obtain ⟨j, hj, rfl, rfl, HN⟩ := hrel
    by_cases hlt : j < l.length
    · obtain ⟨b, off, rfl, hc⟩ := h3 (by omega)
      have hcell := hc j hlt
      have hw1 : IntKind.i64.wrap ((j : Int) + 1) = (j : Int) + 1 := IntWalk.i64_in _ (by omega)
      have hq0 : ¬ ((j : Int) < 0) := by omega
      have hlt2 : (j : Int) < (l.length : Int) := by omega
      have HT : Hid (l.take (j + 1) = l.take j ++ [l[j]]) := List.take_succ_eq_append_getElem hlt
      have HM : Hid (l[j] ∈ l) := List.getElem_mem hlt
      obtain ⟨y, hy⟩ : ∃ y, y = l[j] := ⟨_, rfl⟩
      rw [← hy] at hcell HT HM
      clear hc h3 hy
      go_wp2_with fail
      refine (notZero_any wr y).mono ?_
      rintro e w2 ⟨rfl, rfl⟩
      by_cases hz : y = 0
      · have hd : (!(y == 0)) = false := by rw [hz]; rfl
        rw [hd]
        go_wp2
        refine ⟨⟨j + 1, by omega, by congr 1, trivial, ?_⟩, ?_⟩
        · show _ = _
          rw [HT.out, List.all_append, HN.out, hz]
          rfl
        · show l.length - ((j : Int) + 1).toNat < l.length - (j : Int).toNat
          omega
      · have hd : (!(y == 0)) = true := by rw [beq_false_of_ne hz]; rfl
        have HE : Hid (l.all (· == 0) = false) := by
          show _ = _
          cases hall : l.all (· == 0)
          · rfl
          · rw [List.all_eq_true] at hall
            exact absurd (eq_of_beq (hall y HM.out)) hz
        rw [hd]
        go_wp2
        go_ret
        exact ⟨_, rfl, by rw [HE.out]; simp, rfl⟩
    · have hj2 : j = l.length := by omega
      subst hj2
      have HE : Hid (l.all (· == 0) = true) := by
        have := HN.out
        rwa [List.take_length] at this
      clear HN
      go_wp2
      go_ret
      refine ⟨_, rfl, ?_, rfl⟩
      rw [HE.out]
      rfl
set_option maxHeartbeats 400000 in
theorem ContainsFunc_any (w : World) (v : Value) (l : List UInt8) (h : Bs w v l) :
    Calls Tryz.prog 88 #[v, .func (.func 89) #[] #[]] w fun e w' => e = .returned (.bool (!(l.all (· == 0)))) ∧ w = w' := by
  have HC := Lib.hid (IndexFunc_any w v l h)
  obtain ⟨A, c, rfl, _, _, _⟩ := h
  generalize l.all (· == 0) = b at HC ⊢
  go_enter Tryz.func88, Tryz.ntmps88
  go_wp2_with fail
  refine HC.out.mono ?_
  intro e w1 h
  obtain ⟨r, he, hr, hw⟩ := h
  subst he hw
  go_wp2
  go_ret
  exact ⟨rfl, rfl⟩
set_option maxHeartbeats 400000 in
theorem isZero_any (w : World) (v : Value) (l : List UInt8) (h : Bs w v l) : Calls Tryz.prog 66 #[v] w fun e w' => e = .returned (.bool (l.all (· == 0))) ∧ w = w' := by
  have HC := Lib.hid (ContainsFunc_any w v l h)
  obtain ⟨A, c, rfl, _, _, _⟩ := h
  generalize l.all (· == 0) = b at HC ⊢
  go_enter Tryz.func66, Tryz.ntmps66
  go_wp2_with fail
  refine HC.out.mono ?_
  rintro e w1 ⟨rfl, rfl⟩
  go_wp2
  go_ret
  exact ⟨by cases b <;> rfl, rfl⟩
section
variable {F : Nat → Prop} {x w : World} {gm g M : Nat} {d : Dev}
set_option maxHeartbeats 1000000 in
theorem isClean_any (h : VS F x gm g M d w) (A n : Nat) (hn : n ≤ 200) (hlen : A + (n + 1) ≤ d.now.length) :
    Calls Tryz.prog 48 #[.agg (slotL g A n)] w (RetV w (.bool (cleanV d.now A n))) := by
  have HR : Hid (∀ y, VS F x gm g M d y → Calls Tryz.prog 67 #[.agg (slotL g A n)] y fun e w' => ∃ v, e = .returned v ∧ OwnB w' y.heap.size 5 v (slotB d.now A n) ∧ Below y.heap.size y w') := fun y h => slotRead_any h A n hn hlen
  have HC : Hid (cleanV d.now A n = (slotB d.now A n).all (· == 0)) := rfl
  have HH := Lib.hid h
  generalize cleanV d.now A n = CV at HC ⊢
  generalize slotB d.now A n = L at HR HC
  clear h
  go_enter Tryz.func48, Tryz.ntmps48
  go_wp2_with (first
    | ((with_reducible refine wpList_box_row (o := ⟨some 1, _, _, _, _, _⟩) rfl 84 (.tmp 0) rfl (slotL g A n) (by with_unfolding_all rfl) ?_); intro g1 w1 n1; have R1 := Lib.hid n1.row; have B1 := Lib.hid n1.below; clear n1)
    | (with_reducible refine wpList_load_row (o := ⟨some 3, _, _, _, _, _⟩) rfl 84 (.tmp 1) rfl g1 (by with_unfolding_all rfl) 84 (slotL g A n) (0, 0) _ (by with_unfolding_all exact R1.out) Tryz.underlying84 rfl (Tryz.sizeSlot g A n) ?_))
  refine (HR.out w1 (HH.out.kept B1.out)).mono ?_
  rintro e w2 ⟨v2, rfl, o2, b2⟩
  have B2 := Lib.hid (below_size B1.out b2)
  have S2 := Lib.hid o2.bs
  obtain ⟨A2, c2, rfl, _⟩ := o2.bs
  clear o2 b2 HR HH
  go_wp2_with fail
  refine (isZero_any w2 _ L S2.out).mono ?_
  rintro e w3 ⟨rfl, rfl⟩
  rw [← HC.out]
  go_wp2
  go_ret
  exact ⟨rfl, B2.out⟩
end
end Go.Proofs.YtpgbicbjlhkonaaGreatDoor
end
section
namespace Go.Proofs.YtpgbicbjlhkonaaGreatDoor
open Go.RowKit Go.Shelf
attribute [local go_sem] Oper.semAt_some
set_option linter.unusedVariables false
set_option maxRecDepth 20000

section
variable {F : Nat → Prop} {x y z w : World} {gm g M N : Nat} {d d' : Dev}
theorem VS.far {row : Option Nat} (h : VS F x gm g N d y) (hg : y.grownBy z row) (hr : ∀ r, row = some r → x.heap.size ≤ r ∧ ∃ o : Obj, y.heap[r]? = some o ∧ o.isCells = false) : VS F x gm g N d z := by
  have ht := h.tabs
  have hne : ∀ (b : Nat) (v : Value), y.cell? ⟨b, 0, none⟩ = some v → row ≠ some b := fun b v hc e => by
    obtain ⟨_, o, ho, hf⟩ := hr b e
    unfold World.cell? at hc
    simp only [ho] at hc
    cases o <;> simp [Obj.isCells] at hf hc
  refine h.turn (G := fun k => row = some k) (Turns.of_grown hg fun k hk => hk) fun k hk => ⟨fun hty => ?_, (hr k hk).1, fun e => hne _ _ (ht.cubes 0 (by omega)) (e ▸ hk), fun e => hne _ _ (ht.squares 0 (by omega)) (e ▸ hk)⟩
  obtain ⟨_, o, ho, hf⟩ := hr k hk
  obtain ⟨o', ho', hf'⟩ := hty.cells
  rw [ho] at ho'
  cases ho'
  rw [hf] at hf'
  cases hf'
/-- A row of the call's own is turned. -/
theorem VS.own {M0 : Nat} {d0 : Dev} (h : VS F x gm g N d y) (h0 : VS F x gm g M0 d0 w) {i : Nat} (hg : y.grownBy z (some i)) (hi : w.heap.size ≤ i) {t : TypeId} {c : Array Value} (hr : RowAt y i t c) (ht : ¬ VTy t) : VS F x gm g N d z := by
  have h1 := h0.tabs.lt
  have h2 := h0.size
  refine h.turn (G := fun k => k = i) (Turns.of_grown hg fun k hk => (Option.some.inj hk).symm) fun k hk => ?_
  subst hk
  exact ⟨TyF.not_row hr ht, by omega, by omega, by omega⟩
theorem Lk.grown {row : Option Nat} (h : Lk x y) (hg : y.grownBy z row) (hr : ∀ r, row = some r → x.heap.size ≤ r) : Lk x z := h.turn (G := fun k => row = some k) (Turns.of_grown hg fun k hk => hk) hr
theorem Lk.at_ (h : Lk x y) {k : Nat} {t : TypeId} {c : Array Value} (hr : RowAt x k t c) (ht : ¬ VTy t) : KeepsAt (fun j => j = k) x y := fun j hj => by subst hj; exact (h.row hr ht).trans hr.symm
theorem Lk.box (h : Lk x y) {k : Nat} {t : TypeId} {v : Value} (hr : Boxed x k t v) (ht : ¬ VTy t) : Boxed y k t v := h.row (show RowAt x k t #[v] from hr) ht
end
theorem Tryz.results_errno {fn : Func} {p : Tmp} (h : fn.results = #[.cell p 25]) (tmps : Array Value) (w : World) (g : Nat) (e : Int)
    (hp : tmps.getD p undef = .pointer (some ⟨g, 0, none⟩)) (hc : w.cell? ⟨g, 0, none⟩ = some (.int .i64 e)) : (results fn tmps).run Tryz.prog w = .ok (.int .i64 e) w := by
  have hp' : tmps[p]?.getD undef = .pointer (some ⟨g, 0, none⟩) := by simpa using hp
  simp [results, h, hp', asAddr]
  go_simp
theorem not_errno : ¬ VTy 25 := by unfold VTy; decide
section
variable {F : Nat → Prop} {x w : World} {gm g M : Nat} {d : Dev}
set_option maxHeartbeats 4000000 in
theorem wipe_any (h : VS F x gm g M d w) (hp : d.pend.length ≤ 500000) (A n : Nat) (hn : n ≤ 200) (hA : A ≤ 1000) :
    Calls Tryz.prog 41 #[.agg (slotL g A n)] w fun e z => e = .returned (.int .i64 (d.run (phase (eraseW A n))).1) ∧ VS F x gm g M (d.run (phase (eraseW A n))).2 z ∧ Lk w z := by
  have HH := Lib.hid h
  have hxw := h.size
  rw [phase_erase]
  clear h
  refine (callsIn_wide (n := 3)).1 ?_
  refine callsIn_of_wp_marks Tryz.func41 rfl trivial ?_ rfl
  simp only [Tryz.ntmps41, List.size_toArray, List.length_cons, List.length_nil, Nat.reduceAdd, Nat.reduceSub, Array.replicate_succ, Array.replicate_zero, List.push_toArray, List.append_toArray, List.nil_append, List.cons_append]
  refine wpIn_wide.2 ?_
  go_wp2_with (first
    | ((with_reducible refine wpList_box_row (o := ⟨some 1, _, _, _, _, _⟩) rfl 84 (.tmp 0) rfl (slotL g A n) (by with_unfolding_all rfl) ?_); intro g1 w1 n1; have R1 := Lib.hid n1.row; have B1 := Lib.hid n1.below; clear n1)
    | (with_reducible refine wpList_load_row (o := ⟨some 6, _, _, _, _, _⟩) rfl 84 (.tmp 1) rfl g1 (by with_unfolding_all rfl) 84 (slotL g A n) (0, 0) _ (by with_unfolding_all exact R1.out.alloc _) Tryz.underlying84 rfl (Tryz.sizeSlot g A n) ?_))
  obtain ⟨gO, hgO⟩ : ∃ gO, gO = w1.heap.size := ⟨_, rfl⟩
  obtain ⟨w2, hw2⟩ : ∃ w2, w2 = w1.alloc (.cells #[.int .i64 0] 25) := ⟨_, rfl⟩
  have BO2 : Hid (Boxed w2 gO 25 (.int .i64 0)) := by show Boxed _ _ _ _; rw [hw2, hgO]; exact Boxed.new w1 _ _
  have B2 : Hid (Below w.heap.size w w2) := by show Below _ _ _; rw [hw2]; exact below_size B1.out (alloc_below _ _)
  have R2 : Hid (RowAt w2 g1 84 (slotL g A n)) := by show RowAt _ _ _ _; rw [hw2]; exact R1.out.alloc _
  have hgw : w.heap.size ≤ gO := by rw [hgO]; exact B1.out.size
  rw [← hw2, ← hgO]
  clear hw2 hgO B1 R1
  refine (sectors_any w2 g A n).mono ?_
  rintro e w5 ⟨gs, rfl, es, hgs, b5⟩
  have EV := Lib.hid es
  have BO5 := Lib.hid (boxed_below BO2.out b5)
  have R5 := Lib.hid (R2.out.kept b5)
  have B5 := Lib.hid (below_size B2.out b5)
  have hsl := es.lt
  have hO5 := BO5.out.lt
  have hg5 := R5.out.lt
  have hgO2 : gO ≠ gs := fun e => by
    have := (Array.getElem?_eq_some_iff.1 BO2.out).1
    omega
  have hg1s : g1 ≠ gO := fun e => by
    have h1 := BO5.out
    rw [← e] at h1
    exact absurd (row_typed (show RowAt w5 g1 25 #[.int .i64 0] from h1) R5.out) (by decide)
  clear es b5 BO2 R2 B2
  go_wp2_with fail
  refine (wpIn_wide (n := 3)).1 ?_
  refine wpIn_rangeFunc_N (F := Fence.wide) rfl (by omega) (gf := 80) (lb := #[.pointer (some ⟨gs, 0, none⟩)]) rfl trivial (enters_of Tryz.func80 (by kernel_rfl) rfl)
    (sectors1_tells 2 (by omega) gs g A n (by omega) (by omega) w5 EV.out) (fun _ _ h => h.elim) keepsAt_t (keepsAt_b (fun k hk => hk ▸ hsl)) (Below.refl _ _) (fun _ => rfl)
    (fun pre W => ((d.run (WE A pre.length)).1 = 0 ∧ VS F x gm g M (d.run (WE A pre.length)).2 W ∧ Lk w W) ∧ (Boxed W gO 25 (.int .i64 0) ∧ RowAt W g1 84 (slotL g A n) ∧ RowAt W gs 84 (slotL g A n)))
    (fun c pre W => c = .ret ∧ (d.run (WE A pre.length)).1 ≠ 0 ∧ VS F x gm g M (d.run (WE A pre.length)).2 W ∧ Lk w W ∧ Boxed W gO 25 (.int .i64 (d.run (WE A pre.length)).1))
    ?hI ?hIx (fun _ _ _ _ h => h.elim) (fun _ _ _ _ _ h => h.elim)
    ⟨⟨rfl, HH.out.kept B5.out, Lk.of_below B5.out⟩, BO5.out, R5.out, EV.out⟩
    (fun x a' W => a' = { tmps := #[.agg (slotL g A n), .pointer (some ⟨g1, 0, none⟩), .pointer (some ⟨gO, 0, none⟩), undef, .int .i64 ((A : Int) + (x : Int)), undef, .agg (slotL g A n), .func (.func 80) #[] #[.pointer (some ⟨gs, 0, none⟩)], .int .i64 (x : Int), .int .i64 ((A : Int) + (x : Int)), undef, undef, undef, undef, undef, undef, undef, undef, undef, undef], defers := [] })
    (fun x a' _ X Y row hs hg hr => hs)
    ?assign ?body ?done ?stop
  case hI =>
    rintro s X Y row ⟨⟨i0, i1, i2⟩, i3, i4, i5⟩ hg hr
    have hne : ∀ k, k < w5.heap.size → some k ≠ row := fun k hk e => by have := (hr k e.symm).1; omega
    have hB := B5.out.size
    exact ⟨⟨i0, i1.far hg fun r e => ⟨by have := (hr r e).1; omega, (hr r e).2⟩, i2.grown hg fun r e => by have := (hr r e).1; omega⟩, i3.kept hg (hne gO hO5), i4.grown hg (hne g1 hg5), i5.grown hg (hne gs hsl)⟩
  case hIx =>
    rintro c s X Y row ⟨i0, i1, i2, i3, i4⟩ hg hr
    have hne : ∀ k, k < w5.heap.size → some k ≠ row := fun k hk e => by have := (hr k e.symm).1; omega
    have hB := B5.out.size
    exact ⟨i0, i1, i2.far hg fun r e => ⟨by have := (hr r e).1; omega, (hr r e).2⟩, i3.grown hg fun r e => by have := (hr r e).1; omega, i4.kept hg (hne gO hO5)⟩
  case assign =>
    rintro lo pre x W K hI hK
    gi_wp2
    exact hK _ _ ((KeepsOthers.of_below (Below.refl _ _)).from _) (KeepsAt.refl _ _) hI rfl
  case body =>
    rintro lo pre x a' W hlo hrec ⟨⟨h0, hV, hL⟩, hO, hR1, hE⟩ rfl ⟨hx, hxn⟩
    have cg : W.cell? ⟨g1, 0, none⟩ = some (.pointer (some ⟨g, 0, none⟩)) := hR1.cell 0
    have HS : Hid (d.run (WE A (pre ++ [x]).length) = ((d.run (WE A pre.length)).2.writeE ((A : Int) + (x : Int)) [], (d.run (WE A pre.length)).2.write ((A : Int) + (x : Int)) [])) := by
      show _ = _
      rw [List.length_append, List.length_singleton, WE_succ, Dev.run_snoc _ h0, ← hx, show (A : Int) + (x : Int) = ((A + x : Nat) : Int) by omega]
      rfl
    have hpk := d.run_pend (WE A pre.length)
    rw [WE_len] at hpk
    have HW := Lib.hid (hV.write ((A : Int) + (x : Int)) (.slice none 0 0) [] (Bs.nil _) (by omega))
    have HL := Lib.hid hL
    have HO := Lib.hid hO
    have HR1 := Lib.hid hR1
    have HE := Lib.hid hE
    generalize (d.run (WE A pre.length)).2 = dk at HS HW
    generalize hew : dk.writeE ((A : Int) + (x : Int)) [] = ew at HS HW
    generalize hdw : dk.write ((A : Int) + (x : Int)) [] = dw at HS HW
    clear hx hrec hpk hV hL hO hR1 hE h0 hew hdw
    gi_wp2
    refine ⟨trivial, ?_⟩
    refine (calls_round HW.out).mono ?_
    rintro e W1 ⟨rfl, v1, l1⟩
    have V1 := Lib.hid v1
    have L1 := Lib.hid (HL.out.trans l1)
    have O1 := Lib.hid (l1.box HO.out not_errno)
    have R1 := Lib.hid (l1.row HR1.out not_slot)
    have E1 := Lib.hid (l1.row HE.out not_slot)
    have KF := Lib.hid (l1.from w5.heap.size)
    have KA := Lib.hid (l1.at_ HE.out not_slot)
    clear v1 l1 HL HO HR1 HE HW cg
    have fO := O1.out.frozen
    by_cases he : ew = 0
    · have hd2 : decide (ew = 0) = true := decide_eq_true he
      subst he
      gi_wp2
      refine ⟨KF.out, KA.out, ⟨?_, ?_, L1.out⟩, O1.out, R1.out, E1.out⟩
      · rw [HS.out]
      · rw [HS.out]; exact V1.out
    · have hd2 : decide (ew = 0) = false := decide_eq_false he
      have cO := O1.out.cell
      gi_wp2
      have hgs2 := grownBy_setCell' W1 gO (.int .i64 ew)
      refine ⟨KF.out.trans ((KeepsOthers.setCell _ _ _).from _), rfl, ?_, ?_, L1.out.grown hgs2 (fun r e => by injection e with e; omega), ?_⟩
      · rw [HS.out]; exact he
      · rw [HS.out]; exact V1.out.own HH.out hgs2 hgw (show RowAt W1 gO _ _ from O1.out) not_errno
      · rw [HS.out]; exact O1.out.set _
  case done =>
    rintro D xs W hD rfl ⟨⟨h0, hV, hL⟩, hO, hR1, hE⟩ hK
    rw [List.length_range] at h0 hV
    have cg : W.cell? ⟨g1, 0, none⟩ = some (.pointer (some ⟨g, 0, none⟩)) := hR1.cell 0
    have HS : Hid (d.run (WE A (n + 1) ++ [.sync]) = ((d.run (WE A (n + 1))).2.syncE, (d.run (WE A (n + 1))).2.sync)) := by
      show _ = _
      rw [Dev.run_snoc _ h0]
      rfl
    have HW := Lib.hid hV.sync
    have HL := Lib.hid hL
    have HO := Lib.hid hO
    have HK := Lib.hid hK
    generalize (d.run (WE A (n + 1))).2 = dk at HS HW
    clear h0 hV hL hO hE hK hR1
    go_wp2_with fail
    refine HW.out.mono ?_
    rintro e W1 ⟨rfl, v1, l1⟩
    have V1 := Lib.hid v1
    have L1 := Lib.hid (HL.out.trans l1)
    have O1 := Lib.hid (l1.box HO.out not_errno)
    have K1 := Lib.hid ((l1.from w5.heap.size).same D _ hD HK.out rfl)
    have fO := O1.out.frozen
    have cO := O1.out.cell
    clear v1 l1 HL HO HW cg HK
    go_wp2
    have hgs2 := grownBy_setCell' W1 gO (.int .i64 dk.syncE)
    have hDO : D ≠ gO := fun e => by
      have h1 := O1.out
      have h2 := K1.out
      rw [e, show W1.heap[gO]? = _ from h1] at h2
      cases h2
    have hK2 : (W1.setCell ⟨gO, 0, none⟩ (.int .i64 dk.syncE)).heap[D]? = some (.deferred (some [])) := (hgs2.block D (Array.getElem?_eq_some_iff.1 K1.out).1 (by intro e; injection e with e; exact hDO e)).trans K1.out
    refine ⟨by simp, .inl ⟨_, _, rfl, run_takeDeferred hK2, ?_⟩⟩
    have hO2 := O1.out.set (.int .i64 dk.syncE)
    have hgp := grownBy_putObj' (W1.setCell ⟨gO, 0, none⟩ (.int .i64 dk.syncE)) D (.deferred none)
    have hO3 := hO2.kept hgp (by intro e; injection e with e; exact hDO e.symm)
    have hB := B5.out.size
    have hr2 : ∀ r, some D = some r → x.heap.size ≤ r ∧ ∃ o : Obj, (W1.setCell ⟨gO, 0, none⟩ (.int .i64 dk.syncE)).heap[r]? = some o ∧ o.isCells = false := fun r e => by
      cases e
      exact ⟨by omega, _, hK2, rfl⟩
    refine ⟨_, Tryz.results_errno rfl _ _ gO dk.syncE rfl hO3.cell, ?_, ?_, ?_⟩
    · rw [HS.out]
    · rw [HS.out]; exact (V1.out.own HH.out hgs2 hgw (show RowAt W1 gO _ _ from O1.out) not_errno).far hgp hr2
    · exact (L1.out.grown hgs2 (fun r e => by injection e with e; omega)).grown hgp fun r e => by injection e with e; omega
  case stop =>
    rintro D c pre W hD ⟨k, hk1, hk2, rfl⟩ ⟨rfl, h0, hV, hL, hO⟩ hK
    rw [List.length_range] at h0 hV hO
    have HS : Hid (d.run (WE A (n + 1) ++ [.sync]) = d.run (WE A k)) := by
      show _ = _
      obtain ⟨rest, e⟩ := WE_pre A k (n + 1 - k)
      rw [show k + (n + 1 - k) = n + 1 by omega] at e
      rw [e, List.append_assoc, Dev.run_stop _ h0]
    have HV := Lib.hid hV
    have HL := Lib.hid hL
    have HO := Lib.hid hO
    have HK := Lib.hid hK
    clear hV hL hO hK h0
    gi_wp2
    have hDO : D ≠ gO := fun e => by
      have h1 := HO.out
      have h2 := HK.out
      rw [e, show W.heap[gO]? = _ from h1] at h2
      cases h2
    refine ⟨by simp, .inl ⟨_, _, rfl, run_takeDeferred HK.out, ?_⟩⟩
    have hgp := grownBy_putObj' W D (.deferred none)
    have hO3 := HO.out.kept hgp (by intro e; injection e with e; exact hDO e.symm)
    have hB := B5.out.size
    have hr2 : ∀ r, some D = some r → x.heap.size ≤ r ∧ ∃ o : Obj, W.heap[r]? = some o ∧ o.isCells = false := fun r e => by
      cases e
      exact ⟨by omega, _, HK.out, rfl⟩
    refine ⟨_, Tryz.results_errno rfl _ _ gO _ rfl hO3.cell, ?_, ?_, ?_⟩
    · rw [HS.out]
    · rw [HS.out]; exact HV.out.far hgp hr2
    · exact HL.out.grown hgp fun r e => by injection e with e; omega
end
end Go.Proofs.YtpgbicbjlhkonaaGreatDoor
end
