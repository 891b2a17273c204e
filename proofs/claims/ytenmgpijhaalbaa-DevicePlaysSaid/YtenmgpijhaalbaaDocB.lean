/-
  The document's device in memory; contracts of full, Done, Len, Fuse. Conditions: as each theorem names them.
-/
import Derived.Test.YtenmgpijhaalbaaDocA
namespace Go.Proofs.Ytenmgpijhaalbaa
open Go.RowKit
set_option linter.unusedVariables false
set_option maxRecDepth 20000

/-- Bytes that lie in a block of R, if anywhere. -/
def InR (w : World) (R : Nat → Prop) (u : Value) (l : List UInt8) : Prop := Bs w u l ∧ ∀ k, u.ownBlock = some k → R k
/-- The cells of a list of writes. -/
def pC (ps : List (Nat × List UInt8 × Value)) : List Value := (ps.map fun x => [Value.int .i64 (x.1 : Int), x.2.2]).flatten
/-- A slice of cells that lies in a block of R. -/
def Row_ (w : World) (R : Nat → Prop) (v : Value) (n : Nat) (cs : List Value) : Prop :=
  ∃ A c, v = .slice A n c ∧ n ≤ c ∧ c ≤ maxLen ∧ (0 < n → ∃ b off, A = some ⟨b, off, none⟩ ∧ R b ∧ w.rangeAt b off cs)
structure DocIs (w : World) (R : Nat → Prop) (g : Nat) (vs vp : Value) (ss : List (List UInt8 × Value)) (ps : List (Nat × List UInt8 × Value)) (a : Ab) : Prop where
  row : RowAt w g 63 #[vs, vp, .bool a.fused, .int .i64 a.left, .bool a.gone]
  free : ¬ R g
  sure : Row_ w R vs ss.length (ss.map (·.2))
  pend : Row_ w R vp ps.length (pC ps)
  each : ∀ x ∈ ss, InR w R x.2 x.1
  every : ∀ x ∈ ps, InR w R x.2.2 x.2.1
  isS : a.sure = ss.map (·.1)
  isP : a.pend = ps.map fun x => (x.1, x.2.1)
def DocIn (w : World) (R : Nat → Prop) (g : Nat) (a : Ab) : Prop := ∃ vs vp ss ps, DocIs w R g vs vp ss ps a
section
variable {w w' : World} {R F : Nat → Prop} {g : Nat} {vs vp : Value} {ss : List (List UInt8 × Value)} {ps : List (Nat × List UInt8 × Value)} {a : Ab}
theorem InR.turned {u : Value} {l : List UInt8} (h : InR w R u l) (ht : Turns F w w') (hF : ∀ k, R k → ¬ F k) : InR w' R u l := ⟨ht.bs h.1 fun k hk => hF k (h.2 k hk), h.2⟩
theorem InR.mono {R' : Nat → Prop} {u : Value} {l : List UInt8} (h : InR w R u l) (hR : ∀ k, R k → R' k) : InR w R' u l := ⟨h.1, fun k hk => hR k (h.2 k hk)⟩
theorem Row_.turned {v : Value} {n : Nat} {cs : List Value} (h : Row_ w R v n cs) (ht : Turns F w w') (hF : ∀ k, R k → ¬ F k) : Row_ w' R v n cs := by
  obtain ⟨A, c, rfl, h1, h2, h3⟩ := h
  refine ⟨A, c, rfl, h1, h2, fun hn => ?_⟩
  obtain ⟨b, off, hA, hR, hc⟩ := h3 hn
  exact ⟨b, off, hA, hR, fun j v hj => ht.cell (hc j v hj) (hF b hR)⟩
theorem Row_.mono {R' : Nat → Prop} {v : Value} {n : Nat} {cs : List Value} (h : Row_ w R v n cs) (hR : ∀ k, R k → R' k) : Row_ w R' v n cs := by
  obtain ⟨A, c, rfl, h1, h2, h3⟩ := h
  refine ⟨A, c, rfl, h1, h2, fun hn => ?_⟩
  obtain ⟨b, off, hA, hb, hc⟩ := h3 hn
  exact ⟨b, off, hA, hR b hb, hc⟩
theorem Row_.nil (w : World) (R : Nat → Prop) : Row_ w R (.slice none 0 0) 0 [] := ⟨none, 0, rfl, Nat.le_refl _, by simp [maxLen], fun h => absurd h (by omega)⟩
theorem Row_.of_own {base size n m : Nat} {e : TypeId} {v : Value} {cs : List Value} (h : w.ownsRow base e size v n cs) (hn : n = m) (hR : ∀ k, v.ownBlock = some k → R k) : Row_ w R v m cs := by
  subst hn
  have hx := h.1
  rcases h.2 with ⟨rfl, h0⟩ | ⟨g, cap, cur, rfl, hb, hg, h1, h2, h3, h4⟩
  · subst h0
    have : cs = [] := List.eq_nil_of_length_eq_zero (by omega)
    subst this
    exact Row_.nil _ _
  · refine ⟨_, cap, rfl, h1, h2, fun _ => ⟨g, 0, rfl, hR g rfl, fun j u hj => ?_⟩⟩
    rw [RowAt.cell hg, Nat.zero_add]
    rw [← h4, List.getElem?_take] at hj
    split at hj
    · simpa using hj
    · cases hj
theorem Row_.shape {v : Value} {n : Nat} {cs : List Value} (h : Row_ w R v n cs) : ∃ A c, v = .slice A n c ∧ n ≤ c ∧ c ≤ maxLen := by
  obtain ⟨A, c, hv, h1, h2, _⟩ := h
  exact ⟨A, c, hv, h1, h2⟩
theorem DocIs.turned (h : DocIs w R g vs vp ss ps a) (ht : Turns F w w') (hF : ∀ k, R k → ¬ F k) (hg : ¬ F g) : DocIs w' R g vs vp ss ps a :=
  ⟨ht.row h.row hg, h.free, h.sure.turned ht hF, h.pend.turned ht hF, fun x hx => (h.each x hx).turned ht hF, fun x hx => (h.every x hx).turned ht hF, h.isS, h.isP⟩
theorem DocIs.kept (h : DocIs w R g vs vp ss ps a) (hb : Below w.heap.size w w') : DocIs w' R g vs vp ss ps a := h.turned (F := fun _ => False) (Turns.of_below _ hb) (fun _ _ h => h) fun h => h
/-- Its own row is written. -/
theorem DocIs.rowed (h : DocIs w R g vs vp ss ps a) (hg : w.grownBy w' (some g)) {a' : Ab} (hr : RowAt w' g 63 #[vs, vp, .bool a'.fused, .int .i64 a'.left, .bool a'.gone]) (h1 : a'.sure = a.sure) (h2 : a'.pend = a.pend) : DocIs w' R g vs vp ss ps a' := by
  have ht : Turns (fun k => k = g) w w' := Turns.of_grown hg fun k hk => (Option.some.inj hk).symm
  have hF : ∀ k, R k → ¬ k = g := fun k hk e => h.free (e ▸ hk)
  exact ⟨hr, h.free, h.sure.turned ht hF, h.pend.turned ht hF, fun x hx => (h.each x hx).turned ht hF, fun x hx => (h.every x hx).turned ht hF, h1.trans h.isS, h2.trans h.isP⟩
theorem DocIs.cell (h : DocIs w R g vs vp ss ps a) (i : Nat) (v : Value) (hv : (#[vs, vp, .bool a.fused, .int .i64 a.left, .bool a.gone] : Array Value)[i]? = some v) : w.cell? ⟨g, i, none⟩ = some v := (h.row.cell i).trans hv
theorem DocIs.lenS (h : DocIs w R g vs vp ss ps a) : a.sure.length = ss.length := by rw [h.isS, List.length_map]
theorem DocIs.lenP (h : DocIs w R g vs vp ss ps a) : a.pend.length = ps.length := by rw [h.isP, List.length_map]
theorem pC_get {k : Nat} {x : Nat × List UInt8 × Value} (hx : ps[k]? = some x) : (pC ps)[k * 2]? = some (.int .i64 (x.1 : Int)) ∧ (pC ps)[k * 2 + 1]? = some x.2.2 := by
  have hall : ∀ l ∈ ps.map (fun x : Nat × List UInt8 × Value => [Value.int .i64 (x.1 : Int), x.2.2]), l.length = 2 := by
    intro l hl
    obtain ⟨y, _, rfl⟩ := List.mem_map.1 hl
    rfl
  have hp := flat_part (n := 2) hall (i := k) (l := [Value.int .i64 (x.1 : Int), x.2.2]) (by rw [List.getElem?_map, hx]; rfl)
  have h0 := congrArg (fun l => l[0]?) hp
  have h1 := congrArg (fun l => l[1]?) hp
  simp only [List.getElem?_take, List.getElem?_drop] at h0 h1
  unfold pC
  exact ⟨by simpa using h0, by simpa using h1⟩
theorem pC_length : (pC ps).length = ps.length * 2 := by
  unfold pC
  rw [flat_length (n := 2) fun l hl => by obtain ⟨y, _, rfl⟩ := List.mem_map.1 hl; rfl, List.length_map]
theorem pC_snoc (x : Nat × List UInt8 × Value) : pC (ps ++ [x]) = pC ps ++ [.int .i64 (x.1 : Int), x.2.2] := by simp [pC]
end

set_option maxHeartbeats 1000000 in
theorem full_any (w : World) (v : Value) (l : List UInt8) (h : Bs w v l) (hl : l.length ≤ 256) :
    Calls Try.prog 29 #[v] w fun e w' => ∃ v', e = .returned v' ∧ OwnB w' w.heap.size 5 v' (pad l) ∧ Below w.heap.size w w' := by
  have HH := Lib.hid h
  have E : Hid (OwnB (w.alloc (.cells #[] 5)) w.heap.size 5 (.slice (some ⟨w.heap.size, 0, none⟩) 0 0) []) := World.ownsRow_lit (base := w.heap.size) (e := 5) (size := 1) w #[] 0 (Nat.le_refl _) (by simp [maxLen]) rfl
  have NB := Lib.hid (new_below w (.cells #[] 5))
  clear h
  go_enter Try.func29, Try.ntmps29
  go_wp2_with (at_builtin; refine wpList_appB _ (o := ⟨some 6, _, _, _, _, _⟩) rfl (.tmp 4) (.tmp 5) 31 rfl w 5 (by kernel_rfl) Try.underlying31 _ _ [] l rfl rfl E.out (HH.out.below NB.out) (by simp; omega) NB.out ?_; intro v6 w6 own6 b6)
  have O6 : Hid (OwnB w6 w.heap.size 5 v6 (l ++ List.replicate 0 0)) := by
    have := own6
    rw [List.nil_append] at this
    show OwnB w6 w.heap.size 5 v6 (l ++ List.replicate 0 0)
    rw [List.replicate_zero, List.append_nil]
    exact this
  clear own6 E NB
  go_loopw [3] (fun u wr => ∃ k : Nat, k ≤ 256 - l.length ∧ Hid (OwnB wr w.heap.size 5 u (l ++ List.replicate k 0)) ∧ Hid (Below w.heap.size w wr)) (fun u wr => match u with | .slice _ n _ => 256 - n | _ => 0)
  case atStart => exact ⟨0, by omega, O6.out, b6⟩
  case round =>
    obtain ⟨k, hk, HO, HB⟩ := hrel
    clear O6 b6
    have hlk : (l ++ List.replicate k (0 : UInt8)).length = l.length + k := by rw [List.length_append, List.length_replicate]
    obtain ⟨A, c, hv⟩ := HO.out.bs.shape2
    rw [hlk] at hv
    subst hv
    by_cases hlt : l.length + k < 256
    · have hd : decide (((l.length + k : Nat) : Int) < 256) = true := by simp; omega
      have EZ : Hid (l ++ List.replicate k 0 ++ [0] = l ++ List.replicate (k + 1) 0) := by show _ = _; rw [List.append_assoc, ← List.replicate_succ']
      go_wp2_with (at_builtin; refine wpList_appB _ (o := ⟨some 12, _, _, _, _, _⟩) rfl (.tmp 10) (.tmp 11) 31 rfl w 5 (by kernel_rfl) Try.underlying31 _ _ (l ++ List.replicate k 0) [0] rfl rfl (HO.out.below (new_below _ _)) (Bs.lit1 wr _ 0 _ rfl) (by rw [hlk]; simp; omega) (below_size HB.out (new_below _ _)) ?_; intro v7 w7 own7 b7)
      have O7 := Lib.hid own7
      rw [EZ.out] at O7
      obtain ⟨A7, c7, hv7⟩ := O7.out.bs.shape2
      have hl7 : (l ++ List.replicate (k + 1) (0 : UInt8)).length = l.length + k + 1 := by rw [List.length_append, List.length_replicate]; omega
      rw [hl7] at hv7
      refine ⟨⟨k + 1, by omega, O7, b7⟩, ?_⟩
      rw [hv7]
      show 256 - (l.length + k + 1) < 256 - (l.length + k)
      omega
    · have hd : decide (((l.length + k : Nat) : Int) < 256) = false := by simp; omega
      have hk2 : k = 256 - l.length := by omega
      subst hk2
      go_wp2
      go_ret
      exact ⟨_, rfl, HO.out, HB.out⟩
section
variable (w : World) (R : Nat → Prop) (g : Nat) (vs vp : Value) (ss : List (List UInt8 × Value)) (ps : List (Nat × List UInt8 × Value)) (a : Ab)
theorem docLen_any (h : DocIs w R g vs vp ss ps a) : Calls Try.prog 38 #[.pointer (some ⟨g, 0, none⟩)] w (RetV w (.int .i64 (a.sure.length : Int))) := by
  have c0 := h.cell 0 _ rfl
  obtain ⟨A, c, hv, _⟩ := h.sure.shape
  rw [h.lenS]
  rw [hv] at c0
  clear h hv
  go_enter Try.func38, Try.ntmps38
  go_wp2
  go_ret
  exact ⟨rfl, Below.refl _ _⟩
theorem docFuse_any (h : DocIs w R g vs vp ss ps a) (n : Int) : Calls Try.prog 18 #[.pointer (some ⟨g, 0, none⟩), .int .i64 n] w fun e w' => e = .returned (.tuple #[]) ∧ DocIs w' R g vs vp ss ps (a.set n) ∧ w.grownBy w' (some g) := by
  have HH := Lib.hid h
  have c2 := h.cell 2 _ rfl
  have c3 := h.cell 3 _ rfl
  have z2 := h.row.frozen 2
  have z3 := h.row.frozen 3
  clear h
  go_enter Try.func18, Try.ntmps18
  go_wp2
  go_end0
  exact ⟨rfl, HH.out.rowed ((grown_setCell _ _ _ _).trans (grown_setCell _ _ _ _)) ((HH.out.row.put 2 _).put 3 _) rfl rfl, (grown_setCell _ _ _ _).trans (grown_setCell _ _ _ _)⟩
theorem docDone_any (h : DocIs w R g vs vp ss ps a) (hl : -9223372036854775808 ≤ a.left ∧ a.left ≤ 9223372036854775807) (hf : a.goes = true → a.fused = true → 0 ≤ a.left) : Calls Try.prog 32 #[.pointer (some ⟨g, 0, none⟩)] w fun e w' => e = .returned (.bool a.goes) ∧ DocIs w' R g vs vp ss ps a.spend ∧ w.grownBy w' (some g) := by
  have HH := Lib.hid h
  have c2 := h.cell 2 _ rfl
  have c3 := h.cell 3 _ rfl
  have c4 := h.cell 4 _ rfl
  have z3 := h.row.frozen 3
  have z4 := h.row.frozen 4
  clear h
  obtain ⟨sure, pend, fused, left, gone⟩ := a
  simp only at *
  have HF := Lib.hid hf
  clear hf
  rcases gone with _ | _
  · rcases fused with _ | _
    · go_enter Try.func32, Try.ntmps32
      go_wp2
      go_ret
      exact ⟨rfl, HH.out.rowed (World.grownBy.refl _ _) HH.out.row rfl rfl, World.grownBy.refl _ _⟩
    · by_cases h0 : left = 0
      · subst h0
        go_enter Try.func32, Try.ntmps32
        go_wp2
        go_ret
        exact ⟨rfl, HH.out.rowed (grown_setCell _ _ _ _) (HH.out.row.put 4 _) rfl rfl, grown_setCell _ _ _ _⟩
      · have hd : decide (left = 0) = false := decide_eq_false h0
        have e1 : Hid (Ab.goes ⟨sure, pend, true, left, false⟩ = true) := by show _ = _; simp [Ab.goes, h0]
        have h1 := HF.out e1.out rfl
        have e2 : Hid (Ab.spend ⟨sure, pend, true, left, false⟩ = ⟨sure, pend, true, left - 1, false⟩) := by show _ = _; unfold Ab.spend; rw [e1.out]; rfl
        have hw : IntKind.i64.wrap (left - 1) = left - 1 := IntWalk.i64_in _ (by omega)
        go_enter Try.func32, Try.ntmps32
        go_wp2
        go_ret
        rw [e1.out, e2.out]
        exact ⟨rfl, HH.out.rowed (grown_setCell _ _ _ _) (HH.out.row.put 3 _) rfl rfl, grown_setCell _ _ _ _⟩
  · rcases fused with _ | _
    · go_enter Try.func32, Try.ntmps32
      go_wp2
      go_ret
      exact ⟨rfl, HH.out.rowed (World.grownBy.refl _ _) HH.out.row rfl rfl, World.grownBy.refl _ _⟩
    · by_cases h0 : 0 < left
      · have hd : decide (0 < left) = true := decide_eq_true h0
        have e2 : Hid (Ab.spend ⟨sure, pend, true, left, true⟩ = ⟨sure, pend, true, left - 1, true⟩) := by show _ = _; simp [Ab.spend, Ab.goes, h0]
        have hw : IntKind.i64.wrap (left - 1) = left - 1 := IntWalk.i64_in _ (by omega)
        go_enter Try.func32, Try.ntmps32
        go_wp2
        go_ret
        rw [e2.out]
        exact ⟨rfl, HH.out.rowed (grown_setCell _ _ _ _) (HH.out.row.put 3 _) rfl rfl, grown_setCell _ _ _ _⟩
      · have hd : decide (0 < left) = false := decide_eq_false h0
        have e2 : Hid (Ab.spend ⟨sure, pend, true, left, true⟩ = ⟨sure, pend, true, left, true⟩) := by show _ = _; simp [Ab.spend, Ab.goes, h0]
        go_enter Try.func32, Try.ntmps32
        go_wp2
        go_ret
        rw [e2.out]
        exact ⟨rfl, HH.out, World.grownBy.refl _ _⟩
end
end Go.Proofs.Ytenmgpijhaalbaa
