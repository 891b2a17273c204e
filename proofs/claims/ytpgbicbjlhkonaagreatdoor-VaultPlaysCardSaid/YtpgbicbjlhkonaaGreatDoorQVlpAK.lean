/-
  Texts that belong together, merged: VltC, VltD, VltE, VltF, CodB. Conditions: as each theorem names them.
-/
import Derived.Test.YtpgbicbjlhkonaaGreatDoorQVlpAJ
import Derived.Lib.SliceRun
section
namespace Go.Proofs.YtpgbicbjlhkonaaGreatDoor
set_option linter.unusedVariables false
set_option maxRecDepth 20000

theorem pad_full {b : List UInt8} (h : b.length = 256) : pad b = b := by
  unfold pad
  rw [h]
  simp
theorem padW_mem {ws : List (Nat × List UInt8)} {x : Nat × List UInt8} (hx : x ∈ padW ws) : ∃ y ∈ ws, x = (y.1, pad y.2) := by
  obtain ⟨y, hy, rfl⟩ := List.mem_map.1 hx
  exact ⟨y, hy, rfl⟩
/-- The last write to a sector is what is read. -/
theorem done_last (p : List (Nat × List UInt8)) (s : List (List UInt8)) (i k n : Nat) (x : Nat × List UInt8) (hi : i < s.length) (hk : p[k]? = some x) (hx : x.1 = i) (hkn : k < n) (hn : n ≤ p.length) (hlast : ∀ j y, k < j → j < n → p[j]? = some y → y.1 ≠ i) : (doneTo (fun _ => true) p s n)[i]? = some x.2 := by
  induction n with
  | zero => omega
  | succ n ih =>
    obtain ⟨y, hy⟩ : ∃ y, p[n]? = some y := ⟨_, List.getElem?_eq_getElem (by omega)⟩
    rw [doneTo_step _ _ _ n y hy, if_pos rfl, List.getElem?_set]
    by_cases hkn2 : k = n
    · subst hkn2
      have e := hk.symm.trans hy
      injection e with e
      subst e
      rw [if_pos hx, if_pos (by rw [doneTo_length]; omega)]
    · have hne := hlast n y (by omega) (by omega) hy
      rw [if_neg hne]
      exact ih (by omega) (by omega) fun j z h1 h2 h3 => hlast j z h1 (by omega) h3
section
variable {hd : Nat → List UInt8 → List UInt8} {at_ n s q : Nat} {C : List (List UInt8)} {b b0 : List UInt8} {d : Dev}
theorem Holds.num_le (h : Holds hd at_ n C s b q) : numOf C (lowOf at_ n s) ≤ q := by
  by_cases hq : q = 0
  · obtain ⟨z0, z1, _, rfl⟩ := h.zero hq
    omega
  · obtain ⟨hc, _⟩ := h.more hq
    rcases countsV_num (n := n) (hd := hd) (h.head_len s h.le) with e | ⟨e, _⟩
    · rw [e] at hc
      injection hc with _ hc
      exact absurd hc.symm hq
    · rw [hc] at e
      exact Nat.le_of_eq e.symm
theorem chunks_le (hb : b.length ≤ 256 * n) : chunks b ≤ n := by unfold chunks; omega
theorem chunk_len (b : List UInt8) (i : Nat) : (chunk b i).length ≤ 256 := by
  unfold chunk
  rw [List.length_take]
  omega
theorem dataW_get {lo i : Nat} (hi : i < chunks b) : (dataW lo b)[i]? = some (lo + 1 + i, chunk b i) := by
  unfold dataW
  rw [List.getElem?_map, List.getElem?_range hi]
  rfl
theorem eraseW_get {lo i : Nat} (hi : i ≤ n) : (eraseW lo n)[i]? = some (lo + i, []) := by
  unfold eraseW
  rw [List.getElem?_map, List.getElem?_range (by omega)]
  rfl
theorem padW_get {ws : List (Nat × List UInt8)} {i : Nat} {x : Nat × List UInt8} (h : ws[i]? = some x) : (padW ws)[i]? = some (x.1, pad x.2) := by
  unfold padW
  rw [List.getElem?_map, h]
  rfl
theorem padW_length (ws : List (Nat × List UInt8)) : (padW ws).length = ws.length := List.length_map _
theorem dataW_length (lo : Nat) : (dataW lo b).length = chunks b := by simp [dataW]
theorem eraseW_length (lo : Nat) : (eraseW lo n).length = n + 1 := by simp [eraseW]
/-- Writes to sectors one behind the other: each is what was written. -/
theorem done_row {ws : List (Nat × List UInt8)} {lo i : Nat} {x : List UInt8} (hw : ∀ j y, ws[j]? = some y → y.1 = lo + j) (hi : ws[i]? = some (lo + i, x)) (hC : lo + i < C.length) : (doneTo (fun _ => true) (padW ws) C (padW ws).length)[lo + i]? = some (pad x) := by
  have hlt := (List.getElem?_eq_some_iff.1 hi).1
  refine done_last (padW ws) C (lo + i) i (padW ws).length (lo + i, pad x) hC (padW_get hi) rfl (by rw [padW_length]; exact hlt) (Nat.le_refl _) fun j y h1 h2 h3 => ?_
  obtain ⟨z, hz, rfl⟩ := Option.map_eq_some_iff.1 (by rw [padW, List.getElem?_map] at h3; exact h3)
  show z.1 ≠ _
  rw [hw j z hz]
  omega
theorem fits_data (h : Holds hd at_ n C s b0 q) (hb : b.length ≤ 256 * n) : Fits (dataW (lowOf at_ n (1 - s)) b) C.length := by
  intro x hx
  obtain ⟨i, hi, rfl⟩ := List.mem_map.1 hx
  have hi2 := List.mem_range.1 hi
  have hc := chunks_le hb
  have := low_in h (t := 1 - s) (i := 1 + i) (by have := h.le; omega) (by omega)
  exact ⟨by show _ + 1 + i < _; omega, chunk_len b i⟩
theorem fits_erase (h : Holds hd at_ n C s b0 q) {t : Nat} (ht : t ≤ 1) : Fits (eraseW (lowOf at_ n t) n) C.length := by
  intro x hx
  obtain ⟨i, hi, rfl⟩ := List.mem_map.1 hx
  have hi2 := List.mem_range.1 hi
  exact ⟨low_in h ht (by omega), Nat.zero_le _⟩
theorem Holds.dataP (h : Holds hd at_ n C s b0 q) (hb : b.length ≤ 256 * n) {us rs : List (Nat × List UInt8)} (hu : dataW (lowOf at_ n (1 - s)) b = us ++ rs) (f : Nat → Bool) (k : Nat) : Holds hd at_ n (doneTo f (padW us) C k) s b0 q := by
  refine h.data f _ k fun x hx => ?_
  obtain ⟨y, hy, rfl⟩ := padW_mem hx
  have hm : y ∈ dataW (lowOf at_ n (1 - s)) b := by rw [hu]; exact List.mem_append_left _ hy
  obtain ⟨i, hi, rfl⟩ := List.mem_map.1 hm
  have hi2 := List.mem_range.1 hi
  have hc := chunks_le hb
  exact ⟨pad_length (chunk_len b i), 1 + i, by omega, by omega, by show _ + 1 + i = _; omega⟩
theorem Holds.eraseP (h : Holds hd at_ n C s b0 q) (hq : q ≠ 0) {us rs : List (Nat × List UInt8)} (hu : eraseW (lowOf at_ n (1 - s)) n = us ++ rs) (f : Nat → Bool) (k : Nat) : Holds hd at_ n (doneTo f (padW us) C k) s b0 q := by
  refine h.erase f _ k hq fun x hx => ?_
  obtain ⟨y, hy, rfl⟩ := padW_mem hx
  have hm : y ∈ eraseW (lowOf at_ n (1 - s)) n := by rw [hu]; exact List.mem_append_left _ hy
  obtain ⟨i, hi, rfl⟩ := List.mem_map.1 hm
  have hi2 := List.mem_range.1 hi
  exact ⟨rfl, i, by omega, rfl⟩
theorem zeros_all : ∀ x ∈ pad [], (x == 0) = true := by
  intro x hx
  have : x ∈ List.replicate 256 (0 : UInt8) := hx
  rw [(List.mem_replicate.1 this).2]
  rfl
theorem clean_done {lo : Nat} (hC : lo + n < C.length) : cleanV (doneTo (fun _ => true) (padW (eraseW lo n)) C (padW (eraseW lo n)).length) lo n = true := by
  unfold cleanV slotB
  rw [List.all_eq_true]
  intro x hx
  obtain ⟨l, hl, hxl⟩ := List.mem_flatten.1 hx
  obtain ⟨i, hi, rfl⟩ := List.mem_map.1 hl
  have hi2 := List.mem_range.1 hi
  have hr := done_row (C := C) (ws := eraseW lo n) (lo := lo) (i := i) (x := []) (fun j y hy => by
    have hj : j < n + 1 := by have := (List.getElem?_eq_some_iff.1 hy).1; rwa [eraseW_length] at this
    rw [eraseW_get (by omega)] at hy
    rw [← Option.some.inj hy]) (eraseW_get (by omega)) (by omega)
  have hs : sec (doneTo (fun _ => true) (padW (eraseW lo n)) C (padW (eraseW lo n)).length) (lo + i) = pad [] := by
    unfold sec
    rw [List.getD_eq_getElem?_getD, hr]
    rfl
  rw [hs] at hxl
  exact zeros_all x hxl

/-- A SAVE: it is done, and nothing is left of the old state; or it goes down amid it, and behind any crash the old state is there, or the new one. -/
theorem save_run (hH : HeadOk hd) (hc : Calm d C) (h : Holds hd at_ n C s b0 q) (hn : n ≤ 200) (hb : b.length ≤ 256 * n) (hq : q + 1 < 18446744073709551616) :
    ((d.run (saveV at_ n s q b hd)).1 = 0 ∧ ∃ C', Calm (d.run (saveV at_ n s q b hd)).2 C' ∧ C'.length = C.length ∧ Holds hd at_ n C' (1 - s) b (q + 1) ∧ cleanV C' (lowOf at_ n s) n = true) ∨
    ((d.run (saveV at_ n s q b hd)).1 = 61 ∧ (d.run (saveV at_ n s q b hd)).2.burnt = true ∧ (d.run (saveV at_ n s q b hd)).2.pend.length ≤ 201 ∧ ∀ keep, ∃ C', Calm ((d.run (saveV at_ n s q b hd)).2.crash keep) C' ∧ C'.length = C.length ∧ (Holds hd at_ n C' s b0 q ∨ Holds hd at_ n C' (1 - s) b (q + 1))) := by
  have hs := h.le
  have hch := chunks_le hb
  unfold saveV
  rcases hc.run_phase (fits_data h hb) with ⟨e1, c1⟩ | ⟨e1, u1, us, rs, hu, a1⟩
  · rw [Dev.run_app _ e1]
    have h1 := h.dataP hb (us := dataW (lowOf at_ n (1 - s)) b) (rs := []) (by simp) (fun _ => true) (padW (dataW (lowOf at_ n (1 - s)) b)).length
    have l1 : (doneTo (fun _ => true) (padW (dataW (lowOf at_ n (1 - s)) b)) C (padW (dataW (lowOf at_ n (1 - s)) b)).length).length = C.length := doneTo_length _ _ _ _
    have dat : ∀ i, i < chunks b → (doneTo (fun _ => true) (padW (dataW (lowOf at_ n (1 - s)) b)) C (padW (dataW (lowOf at_ n (1 - s)) b)).length)[lowOf at_ n (1 - s) + 1 + i]? = some (pad (chunk b i)) := fun i hi => by
      refine done_row (lo := lowOf at_ n (1 - s) + 1) (fun j y hy => ?_) (dataW_get hi) ?_
      · have hj : j < chunks b := by have := (List.getElem?_eq_some_iff.1 hy).1; rwa [dataW_length] at this
        rw [dataW_get hj] at hy
        rw [← Option.some.inj hy]
      · have := low_in h (t := 1 - s) (i := 1 + i) (by omega) (by omega)
        omega
    generalize (d.run (phase (dataW (lowOf at_ n (1 - s)) b))).2 = d1 at c1 ⊢
    generalize doneTo (fun _ => true) (padW (dataW (lowOf at_ n (1 - s)) b)) C (padW (dataW (lowOf at_ n (1 - s)) b)).length = C1 at *
    have hb6 : b.length ≤ 60000 := by omega
    have hlen := hH.len (q + 1) b hb6
    have h2 := Holds.head hH h1 hn hb hq dat h1.num_le
    have fit2 : Fits [(lowOf at_ n (1 - s), hd (q + 1) b)] C1.length := by
      intro x hx
      rw [List.mem_singleton.1 hx]
      have := low_in h1 (t := 1 - s) (i := 0) (by omega) (Nat.zero_le _)
      exact ⟨this, Nat.le_of_eq hlen⟩
    rcases c1.run_phase fit2 with ⟨e2, c2⟩ | ⟨e2, u2, us, rs, hu, a2⟩
    · rw [Dev.run_app _ e2]
      have hC2 : doneTo (fun _ => true) (padW [(lowOf at_ n (1 - s), hd (q + 1) b)]) C1 (padW [(lowOf at_ n (1 - s), hd (q + 1) b)]).length = C1.set (lowOf at_ n (1 - s)) (hd (q + 1) b) := by
        show (C1.set _ (pad _)) = _
        rw [pad_full hlen]
      rw [hC2] at c2
      have l2 : (C1.set (lowOf at_ n (1 - s)) (hd (q + 1) b)).length = C.length := by rw [List.length_set, l1]
      generalize (d1.run (phase [(lowOf at_ n (1 - s), hd (q + 1) b)])).2 = d2 at c2 ⊢
      generalize C1.set (lowOf at_ n (1 - s)) (hd (q + 1) b) = C2 at *
      have hoo := other_other hs
      rcases c2.run_phase (fits_erase h2 (t := s) hs) with ⟨e3, c3⟩ | ⟨e3, u3, us, rs, hu, a3⟩
      · left
        refine ⟨e3, _, c3, by rw [doneTo_length, l2], ?_, clean_done (low_in h2 hs (Nat.le_refl _))⟩
        exact h2.eraseP (by omega) (us := eraseW (lowOf at_ n s) n) (rs := []) (by rw [hoo]; simp) _ _
      · right
        refine ⟨e3, u3, ?_, fun keep => ⟨_, a3.crash keep, by rw [doneTo_length, l2], .inr (h2.eraseP (by omega) (us := us) (rs := rs) (by rw [hoo]; exact hu) _ _)⟩⟩
        rw [a3.pend, padW_length]
        have := congrArg List.length hu
        rw [eraseW_length, List.length_append] at this
        omega
    · right
      rw [Dev.run_stop _ (by rw [e2]; decide)]
      have hus : us = [] ∨ us = [(lowOf at_ n (1 - s), hd (q + 1) b)] := by
        rcases us with _ | ⟨u, us⟩
        · exact .inl rfl
        · right
          rw [List.cons_append] at hu
          injection hu with h5 h6
          have := List.append_eq_nil_iff.1 h6.symm
          rw [h5, this.1]
      refine ⟨e2, u2, ?_, fun keep => ⟨_, a2.crash keep, by rw [doneTo_length, l1], ?_⟩⟩
      · rw [a2.pend, padW_length]
        rcases hus with e | e <;> rw [e] <;> simp
      · rcases hus with e | e
        · rw [e]
          exact .inl h1
        · rw [e]
          have hx : doneTo (fun k => keep.getD k false) (padW [(lowOf at_ n (1 - s), hd (q + 1) b)]) C1 (padW [(lowOf at_ n (1 - s), hd (q + 1) b)]).length = if keep.getD 0 false then C1.set (lowOf at_ n (1 - s)) (hd (q + 1) b) else C1 := by
            show doneTo (fun k => keep.getD k false) [(lowOf at_ n (1 - s), pad (hd (q + 1) b))] C1 1 = _
            rw [doneTo_step _ _ _ 0 (lowOf at_ n (1 - s), pad (hd (q + 1) b)) rfl, pad_full hlen]
            rfl
          rw [hx]
          by_cases hk : keep.getD 0 false = true
          · rw [if_pos hk]
            exact .inr h2
          · rw [if_neg hk]
            exact .inl h1
  · right
    rw [Dev.run_stop _ (by rw [e1]; decide)]
    refine ⟨e1, u1, ?_, fun keep => ⟨_, a1.crash keep, doneTo_length _ _ _ _, .inl (h.dataP hb hu _ _)⟩⟩
    rw [a1.pend, padW_length]
    have := congrArg List.length hu
    rw [dataW_length, List.length_append] at this
    omega
/-- What Recover does, where a state is there. -/
def recV (C : List (List UInt8)) (at_ n s : Nat) : List DAct := if cleanV C (lowOf at_ n (1 - s)) n then [] else phase (eraseW (lowOf at_ n (1 - s)) n)
theorem rec_run (hc : Calm d C) (h : Holds hd at_ n C s b q) (hn : n ≤ 200) (hq : q ≠ 0) :
    ((d.run (recV C at_ n s)).1 = 0 ∧ ∃ C', Calm (d.run (recV C at_ n s)).2 C' ∧ C'.length = C.length ∧ Holds hd at_ n C' s b q ∧ cleanV C' (lowOf at_ n (1 - s)) n = true) ∨
    ((d.run (recV C at_ n s)).1 = 61 ∧ (d.run (recV C at_ n s)).2.burnt = true ∧ (d.run (recV C at_ n s)).2.pend.length ≤ 201 ∧ ∀ keep, ∃ C', Calm ((d.run (recV C at_ n s)).2.crash keep) C' ∧ C'.length = C.length ∧ Holds hd at_ n C' s b q) := by
  have hs := h.le
  unfold recV
  by_cases hcl : cleanV C (lowOf at_ n (1 - s)) n = true
  · rw [if_pos hcl]
    exact .inl ⟨rfl, C, hc, rfl, h, hcl⟩
  · rw [if_neg hcl]
    rcases hc.run_phase (fits_erase h (t := 1 - s) (by omega)) with ⟨e3, c3⟩ | ⟨e3, u3, us, rs, hu, a3⟩
    · left
      refine ⟨e3, _, c3, doneTo_length _ _ _ _, ?_, clean_done (low_in h (by omega) (Nat.le_refl _))⟩
      exact h.eraseP hq (us := eraseW (lowOf at_ n (1 - s)) n) (rs := []) (by simp) _ _
    · right
      refine ⟨e3, u3, ?_, fun keep => ⟨_, a3.crash keep, doneTo_length _ _ _ _, h.eraseP hq hu _ _⟩⟩
      rw [a3.pend, padW_length]
      have := congrArg List.length hu
      rw [eraseW_length, List.length_append] at this
      omega
end
end Go.Proofs.YtpgbicbjlhkonaaGreatDoor
end
section
namespace Go.Proofs.YtpgbicbjlhkonaaGreatDoor
set_option linter.unusedVariables false
set_option maxRecDepth 20000

def rightV (len : Nat) (at_ n : Int) : Int := if n < 1 ∨ 200 < n then 1 else if at_ < 0 ∨ (len : Int) < at_ ∨ (len : Int) < at_ + 2 * n + 2 then 60 else 0
section
variable (hd : Nat → List UInt8 → List UInt8)
def loadV (d : Dev) (at_ n : Nat) : List UInt8 × Nat × Int :=
  if (bestV d.now at_ n hd).2.2 = 0 then ([], 0, 62) else ((bestV d.now at_ n hd).2.1, (bestV d.now at_ n hd).2.2, 0)
def saveR (d : Dev) (at_ n : Nat) (b : List UInt8) : Int × Dev :=
  if 256 * n < b.length then (2, d) else if (bestV d.now at_ n hd).2.2 = 18446744073709551615 then (63, d) else d.run (saveV at_ n (bestV d.now at_ n hd).1 (bestV d.now at_ n hd).2.2 b hd)
def recR (d : Dev) (at_ n : Nat) : (List UInt8 × Nat × Int) × Dev :=
  if (bestV d.now at_ n hd).2.2 = 0 then (([], 0, 62), d)
  else if (d.run (recV d.now at_ n (bestV d.now at_ n hd).1)).1 = 0 then (((bestV d.now at_ n hd).2.1, (bestV d.now at_ n hd).2.2, 0), (d.run (recV d.now at_ n (bestV d.now at_ n hd).1)).2)
  else (([], 0, (d.run (recV d.now at_ n (bestV d.now at_ n hd).1)).1), (d.run (recV d.now at_ n (bestV d.now at_ n hd).1)).2)
/-- With what is asked of a place. -/
def loadF (d : Dev) (at_ n : Int) : List UInt8 × Nat × Int := if rightV d.now.length at_ n = 0 then loadV hd d at_.toNat n.toNat else ([], 0, rightV d.now.length at_ n)
def saveF (d : Dev) (at_ n : Int) (b : List UInt8) : Int × Dev := if rightV d.now.length at_ n = 0 then saveR hd d at_.toNat n.toNat b else (rightV d.now.length at_ n, d)
def recF (d : Dev) (at_ n : Int) : (List UInt8 × Nat × Int) × Dev := if rightV d.now.length at_ n = 0 then recR hd d at_.toNat n.toNat else (([], 0, rightV d.now.length at_ n), d)
def staleF (d : Dev) (at_ n : Int) : Bool × Int := if rightV d.now.length at_ n = 0 then (cleanV d.now (lowOf at_.toNat n.toNat 0) n.toNat || cleanV d.now (lowOf at_.toNat n.toNat 1) n.toNat, 0) else (false, rightV d.now.length at_ n)
end
theorem right_12 {len : Nat} (h : len = 20) : rightV len 1 2 = 0 := by subst h; decide

/-! One that is down. -/
section
variable {d : Dev}
theorem burnt_goes (h : d.burnt = true) : d.goes = false := by unfold Dev.goes; rw [h]; rfl
theorem burnt_act (h : d.burnt = true) (x : DAct) : (d.act x).1 ≠ 0 ∧ ((d.act x).2 = d ∨ (d.act x).2 = d.spend) := by
  have hg := burnt_goes h
  cases x with
  | write i b =>
    show d.writeE i b ≠ 0 ∧ (d.write i b = d ∨ d.write i b = d.spend)
    unfold Dev.writeE Dev.write
    rw [hg]
    split
    · exact ⟨by decide, .inl rfl⟩
    · split
      · exact ⟨by decide, .inl rfl⟩
      · exact ⟨by decide, .inr rfl⟩
  | sync =>
    show d.syncE ≠ 0 ∧ (d.sync = d ∨ d.sync = d.spend)
    unfold Dev.syncE Dev.sync
    rw [hg]
    exact ⟨by decide, .inr rfl⟩
theorem burnt_run (h : d.burnt = true) (l : List DAct) : (d.run l).2 = d ∨ (d.run l).2 = d.spend := by
  rcases l with _ | ⟨x, l⟩
  · exact .inl rfl
  · rw [Dev.run_err l (burnt_act h x).1]
    exact (burnt_act h x).2
theorem burnt_run_err (h : d.burnt = true) {l : List DAct} (hl : l ≠ []) : (d.run l).1 ≠ 0 := by
  rcases l with _ | ⟨x, l⟩
  · exact absurd rfl hl
  · rw [Dev.run_err l (burnt_act h x).1]
    exact (burnt_act h x).1
theorem saveV_ne (at_ n old seq : Nat) (b : List UInt8) (hd : Nat → List UInt8 → List UInt8) : saveV at_ n old seq b hd ≠ [] := by
  unfold saveV phase
  intro h
  have := congrArg List.length h
  simp at this
theorem spend_burnt (h : d.burnt = true) : d.spend.burnt = true := by
  show (!d.goes) = true
  rw [burnt_goes h]
  rfl
end

/-- A device of twenty sectors behind k calls that save, crash, fuse and recover at 1, two sectors. -/
structure MadeV (hd : Nat → List UInt8 → List UInt8) (k : Nat) (d : Dev) : Prop where
  ok : d.Ok
  len : d.now.length = 20
  pend : d.pend.length ≤ 201
  is : (d.burnt = false ∧ ∃ s b q, q ≤ k ∧ Calm d d.now ∧ Holds hd 1 2 d.now s b q) ∨
    (d.burnt = true ∧ ∀ keep, ∃ C s b q, q ≤ k ∧ C.length = 20 ∧ Calm (d.crash keep) C ∧ Holds hd 1 2 C s b q)
section
variable {hd : Nat → List UInt8 → List UInt8} {k : Nat} {d : Dev}
theorem MadeV.of_calm {C : List (List UInt8)} {s q : Nat} {b : List UInt8} (h : Calm d C) (hl : C.length = 20) (hq : q ≤ k) (hh : Holds hd 1 2 C s b q) : MadeV hd k d := by
  have hn := h.now
  exact ⟨h.ok, by rw [hn]; exact hl, by rw [h.pend]; exact Nat.zero_le _, .inl ⟨h.up, s, b, q, hq, by rw [hn]; exact h, by rw [hn]; exact hh⟩⟩
theorem MadeV.more (h : MadeV hd k d) {k' : Nat} (hk : k ≤ k') : MadeV hd k' d := by
  refine ⟨h.ok, h.len, h.pend, h.is.imp ?_ ?_⟩
  · rintro ⟨h1, s, b, q, h2, h3⟩
    exact ⟨h1, s, b, q, Nat.le_trans h2 hk, h3⟩
  · rintro ⟨h1, h2⟩
    refine ⟨h1, fun keep => ?_⟩
    obtain ⟨C, s, b, q, h3, h4⟩ := h2 keep
    exact ⟨C, s, b, q, Nat.le_trans h3 hk, h4⟩
theorem zero_calm : Calm (Dev.new 20) (Dev.new 20).now := ⟨Dev.new_ok 20 (by omega) (by omega), rfl, rfl, rfl, rfl⟩
theorem zero_num : ofHighB (zeroSec.take 8) = 0 := by rfl
theorem zero_holds : Holds hd 1 2 (Dev.new 20).now 1 [] 0 := by
  refine ⟨Nat.le_refl _, by show 1 + 2 * 2 + 2 ≤ (List.replicate 20 zeroSec).length; rw [List.length_replicate]; omega, fun l hl => ?_, fun _ => ⟨?_, ?_, rfl, rfl⟩, fun h => absurd rfl h⟩
  · rw [(List.mem_replicate.1 hl).2]
    exact zeroSec_length
  · exact zero_num
  · exact zero_num
theorem MadeV.new : MadeV hd 0 (Dev.new 20) := MadeV.of_calm zero_calm (List.length_replicate) (Nat.le_refl _) zero_holds
/-- Behind a crash it is calm. -/
theorem MadeV.crashed (h : MadeV hd k d) (keep : List Bool) : ∃ C s b q, q ≤ k ∧ C.length = 20 ∧ Calm (d.crash keep) C ∧ Holds hd 1 2 C s b q := by
  rcases h.is with ⟨_, s, b, q, hq, hc, hh⟩ | ⟨_, h2⟩
  · exact ⟨d.now, s, b, q, hq, h.len, hc.crash keep, hh⟩
  · exact h2 keep
theorem MadeV.crash (h : MadeV hd k d) (keep : List Bool) : MadeV hd k (d.crash keep) := by
  obtain ⟨C, s, b, q, h1, h2, h3, h4⟩ := h.crashed keep
  exact MadeV.of_calm h3 h2 h1 h4
theorem Calm.set {C : List (List UInt8)} (h : Calm d C) {n : Int} (hn : -9223372036854775808 ≤ n ∧ n ≤ 9223372036854775807) : Calm (d.set n) C := ⟨h.ok.set hn, h.sure, h.now, h.pend, h.up⟩
theorem MadeV.set (h : MadeV hd k d) {n : Int} (hn : -9223372036854775808 ≤ n ∧ n ≤ 9223372036854775807) : MadeV hd k (d.set n) := by
  refine ⟨h.ok.set hn, h.len, h.pend, h.is.imp ?_ ?_⟩
  · rintro ⟨h1, s, b, q, h2, h3, h4⟩
    exact ⟨h1, s, b, q, h2, h3.set hn, h4⟩
  · rintro ⟨h1, h2⟩
    exact ⟨h1, h2⟩
theorem MadeV.spent (h : MadeV hd k d) (hb : d.burnt = true) : MadeV hd k d.spend := by
  refine ⟨h.ok.spend, h.len, h.pend, .inr ⟨spend_burnt hb, fun keep => ?_⟩⟩
  exact h.crashed keep
theorem MadeV.ran (h : MadeV hd k d) (hb : d.burnt = true) (l : List DAct) : MadeV hd k (d.run l).2 := by
  rcases burnt_run hb l with e | e
  · rw [e]; exact h
  · rw [e]; exact h.spent hb
theorem best_calm {C : List (List UInt8)} {s q : Nat} {b : List UInt8} (h : Calm d C) (hh : Holds hd 1 2 C s b q) : bestV d.now 1 2 hd = (s, b, q) := by
  rw [h.now]
  exact hh.best
theorem MadeV.save (hH : HeadOk hd) (h : MadeV hd k d) (hk : k ≤ 1000) (b : List UInt8) : MadeV hd (k + 1) (saveR hd d 1 2 b).2 := by
  unfold saveR
  split
  · exact h.more (by omega)
  · rename_i hb
    split
    · exact h.more (by omega)
    · rcases h.is with ⟨h1, s, b0, q, hq, hc, hh⟩ | ⟨h1, h2⟩
      · rw [best_calm hc hh]
        rcases save_run (b := b) hH hc hh (by omega) (by omega) (by omega) with ⟨_, C', c2, l2, h2, _⟩ | ⟨_, u2, p2, h2⟩
        · exact MadeV.of_calm c2 (l2.trans h.len) (by omega) h2
        · refine ⟨?_, ?_, p2, .inr ⟨u2, fun keep => ?_⟩⟩
          · exact Dev.run_keeps_ok h.ok _
          · exact (Dev.run_keeps_len _ _).trans h.len
          · obtain ⟨C', c2, l2, h3⟩ := h2 keep
            rcases h3 with h3 | h3
            · exact ⟨C', s, b0, q, by omega, l2.trans h.len, c2, h3⟩
            · exact ⟨C', 1 - s, b, q + 1, by omega, l2.trans h.len, c2, h3⟩
      · exact (h.ran h1 _).more (by omega)
theorem MadeV.recover (h : MadeV hd k d) : MadeV hd k (recR hd d 1 2).2 := by
  unfold recR
  split
  · exact h
  · rename_i hq0
    have main : MadeV hd k (d.run (recV d.now 1 2 (bestV d.now 1 2 hd).1)).2 := by
      rcases h.is with ⟨h1, s, b0, q, hq, hc, hh⟩ | ⟨h1, h2⟩
      · rw [best_calm hc hh] at hq0 ⊢
        rcases rec_run hc hh (by omega) hq0 with ⟨_, C', c2, l2, h2, _⟩ | ⟨_, u2, p2, h2⟩
        · exact MadeV.of_calm c2 (l2.trans h.len) hq h2
        · refine ⟨Dev.run_keeps_ok h.ok _, (Dev.run_keeps_len _ _).trans h.len, p2, .inr ⟨u2, fun keep => ?_⟩⟩
          obtain ⟨C', c2, l2, h3⟩ := h2 keep
          exact ⟨C', s, b0, q, hq, l2.trans h.len, c2, h3⟩
      · exact h.ran h1 _
    split
    · exact main
    · exact main
end
end Go.Proofs.YtpgbicbjlhkonaaGreatDoor
end
section
namespace Go.Proofs.YtpgbicbjlhkonaaGreatDoor
set_option linter.unusedVariables false
set_option maxRecDepth 20000

section
variable {hd : Nat → List UInt8 → List UInt8} {k : Nat} {d : Dev}
/-- No fuse, not down. -/
def Free (d : Dev) : Prop := d.there = false ∧ d.burnt = false
theorem Free.goes (h : Free d) : d.goes = true := by unfold Dev.goes; rw [h.1, h.2]; rfl
theorem Free.spend (h : Free d) : Free d.spend := ⟨h.1, by show (!d.goes) = false; rw [h.goes]; rfl⟩
theorem Free.act (h : Free d) (x : DAct) : Free (d.act x).2 := by
  cases x with
  | write i b =>
    show Free (d.write i b)
    unfold Dev.write
    split
    · exact h
    · split
      · exact h
      · split
        · exact h.spend
        · exact h.spend
  | sync =>
    show Free d.sync
    unfold Dev.sync
    split
    · exact h.spend
    · exact h.spend
theorem Free.run (h : Free d) (l : List DAct) : Free (d.run l).2 := by
  induction l generalizing d with
  | nil => exact h
  | cons x l ih =>
    by_cases h0 : (d.act x).1 = 0
    · rw [Dev.run_ok l h0]; exact ih (h.act x)
    · rw [Dev.run_err l h0]; exact h.act x
def ActOk (n : Nat) : DAct → Prop
  | .write i b => i < n ∧ b.length ≤ 256
  | .sync => True
theorem Free.run_ok (h : Free d) {l : List DAct} (hl : ∀ x ∈ l, ActOk d.now.length x) : (d.run l).1 = 0 := by
  induction l generalizing d with
  | nil => rfl
  | cons x l ih =>
    have hx := hl x (List.mem_cons_self ..)
    have h0 : (d.act x).1 = 0 := by
      cases x with
      | write i b =>
        show d.writeE i b = 0
        unfold Dev.writeE
        rw [has_in hx.1, if_neg (by decide), if_neg (by have := hx.2; omega), h.goes]
        rfl
      | sync =>
        show d.syncE = 0
        unfold Dev.syncE
        rw [h.goes]
        rfl
    rw [Dev.run_ok l h0]
    refine ih (h.act x) fun y hy => ?_
    have hlen : (d.act x).2.now.length = d.now.length := by
      cases x with
      | write i b => exact Dev.write_now i b
      | sync => exact Dev.sync_now
    rw [hlen]
    exact hl y (List.mem_cons_of_mem _ hy)
theorem phase_ok {n : Nat} {ws : List (Nat × List UInt8)} (h : Fits ws n) : ∀ x ∈ phase ws, ActOk n x := by
  intro x hx
  rcases List.mem_append.1 hx with hx | hx
  · obtain ⟨y, hy, rfl⟩ := List.mem_map.1 hx
    exact h y hy
  · rw [List.mem_singleton.1 hx]
    trivial
theorem Free.crash (d : Dev) (keep : List Bool) : Free (d.crash keep) := ⟨rfl, rfl⟩
theorem Calm.free {C : List (List UInt8)} (h : Calm d C) : Calm (d.set (-1)) C ∧ Free (d.set (-1)) := ⟨h.set (by omega), rfl, h.up⟩
theorem load_calm {C : List (List UInt8)} {s q : Nat} {b : List UInt8} (h : Calm d C) (hh : Holds hd 1 2 C s b q) : loadV hd d 1 2 = (b, q, if q = 0 then 62 else 0) := by
  unfold loadV
  rw [best_calm h hh]
  by_cases hq : q = 0
  · rw [if_pos hq, if_pos hq, hq, (hh.zero hq).2.2.1]
  · rw [if_neg hq, if_neg hq]
theorem clean_stale {C : List (List UInt8)} {s : Nat} (hs : s ≤ 1) (h : cleanV C (lowOf 1 2 s) 2 = true) : (cleanV C (lowOf 1 2 0) 2 || cleanV C (lowOf 1 2 1) 2) = true := by
  rcases s with _ | _ | s
  · rw [h]; rfl
  · rw [h, Bool.or_true]
  · omega
/-- A save where no fuse is. -/
theorem save_free (hH : HeadOk hd) {C : List (List UInt8)} {s q : Nat} {b b0 : List UInt8} (h : Calm d C) (hf : Free d) (hh : Holds hd 1 2 C s b0 q) (hq : q ≤ 1000) (hb : b.length ≤ 512) :
    (saveR hd d 1 2 b).1 = 0 ∧ Free (saveR hd d 1 2 b).2 ∧ ∃ C', Calm (saveR hd d 1 2 b).2 C' ∧ C'.length = C.length ∧ Holds hd 1 2 C' (1 - s) b (q + 1) ∧ cleanV C' (lowOf 1 2 s) 2 = true := by
  have e : saveR hd d 1 2 b = d.run (saveV 1 2 s q b hd) := by
    unfold saveR
    rw [if_neg (by omega), best_calm h hh, if_neg (by show ¬ q = _; omega)]
  rw [e]
  have hfr := hf.run (saveV 1 2 s q b hd)
  rcases save_run (b := b) hH h hh (by omega) (by omega) (by omega) with ⟨e1, h1⟩ | ⟨_, u, _⟩
  · exact ⟨e1, hfr, h1⟩
  · rw [hfr.2] at u
    cases u
/-- A recover where no fuse is. -/
theorem rec_free {C : List (List UInt8)} {s q : Nat} {b : List UInt8} (h : Calm d C) (hf : Free d) (hh : Holds hd 1 2 C s b q) :
    (recR hd d 1 2).1 = (b, q, if q = 0 then 62 else 0) ∧ Free (recR hd d 1 2).2 ∧ ∃ C', Calm (recR hd d 1 2).2 C' ∧ C'.length = C.length ∧ Holds hd 1 2 C' s b q ∧ (q ≠ 0 → cleanV C' (lowOf 1 2 (1 - s)) 2 = true) := by
  by_cases hq : q = 0
  · have e : recR hd d 1 2 = (([], 0, 62), d) := by
      unfold recR
      rw [best_calm h hh, if_pos hq]
    rw [e, hq, (hh.zero hq).2.2.1]
    exact ⟨rfl, hf, C, h, rfl, by rw [← hq, ← (hh.zero hq).2.2.1]; exact hh, fun h => absurd rfl h⟩
  · have hfr := hf.run (recV d.now 1 2 s)
    rcases rec_run h hh (by omega) hq with ⟨e1, C', c1, l1, h1, k1⟩ | ⟨_, u, _⟩
    · have e : recR hd d 1 2 = ((b, q, 0), (d.run (recV C 1 2 s)).2) := by
        unfold recR
        rw [best_calm h hh, if_neg hq, h.now, if_pos e1]
      rw [h.now] at hfr
      rw [e, if_neg hq]
      exact ⟨rfl, hfr, C', c1, l1, h1, fun _ => k1⟩
    · rw [h.now] at hfr
      rw [hfr.2] at u
      cases u
/-- A recover, wherever it goes down, and a crash. -/
theorem rec_any {C : List (List UInt8)} {s q : Nat} {b : List UInt8} (h : Calm d C) (hh : Holds hd 1 2 C s b q) (keep : List Bool) :
    (recR hd d 1 2).2.pend.length ≤ 201 ∧ ∃ C', Calm ((recR hd d 1 2).2.crash keep) C' ∧ C'.length = C.length ∧ Holds hd 1 2 C' s b q := by
  by_cases hq : q = 0
  · have e : recR hd d 1 2 = (([], 0, 62), d) := by
      unfold recR
      rw [best_calm h hh, if_pos hq]
    rw [e]
    exact ⟨by rw [h.pend]; exact Nat.zero_le _, C, h.crash keep, rfl, hh⟩
  · have e : (recR hd d 1 2).2 = (d.run (recV C 1 2 s)).2 := by
      unfold recR
      rw [best_calm h hh, if_neg hq, h.now]
      split <;> rfl
    rw [e]
    rcases rec_run h hh (by omega) hq with ⟨e1, C', c1, l1, h1, k1⟩ | ⟨_, u, p, h1⟩
    · exact ⟨by rw [c1.pend]; exact Nat.zero_le _, C', c1.crash keep, l1, h1⟩
    · obtain ⟨C', c1, l1, h2⟩ := h1 keep
      exact ⟨p, C', c1, l1, h2⟩
/-- WHAT WAS SAVED IS LOADED. -/
theorem back_plain (hH : HeadOk hd) (h : MadeV hd k d) (hk : k ≤ 1000) (b : List UInt8) (keep : List Bool) :
    ((saveR hd (d.set (-1)) 1 2 b).1 ≠ 0 → d.burnt = true ∨ 512 < b.length) ∧
    ((saveR hd (d.set (-1)) 1 2 b).1 = 0 → ∃ C', (saveR hd (d.set (-1)) 1 2 b).2.pend = [] ∧ Calm ((saveR hd (d.set (-1)) 1 2 b).2.crash keep) C' ∧ C'.length = 20 ∧ (loadV hd (d.set (-1)) 1 2).2.1 ≤ k ∧ loadV hd ((saveR hd (d.set (-1)) 1 2 b).2.crash keep) 1 2 = (b, (loadV hd (d.set (-1)) 1 2).2.1 + 1, 0) ∧ (cleanV C' (lowOf 1 2 0) 2 || cleanV C' (lowOf 1 2 1) 2) = true) := by
  rcases h.is with ⟨h1, s, b0, q, hq, hc, hh⟩ | ⟨h1, h2⟩
  · obtain ⟨c1, f1⟩ := hc.free
    have hl := load_calm c1 hh
    by_cases hb : b.length ≤ 512
    · obtain ⟨e1, f2, C', c2, l2, h3, k3⟩ := save_free hH c1 f1 hh (by omega) hb
      refine ⟨fun h => absurd e1 h, fun _ => ⟨C', c2.pend, c2.crash keep, l2.trans h.len, by rw [hl]; exact hq, ?_, clean_stale hh.le k3⟩⟩
      rw [load_calm (c2.crash keep) h3, hl, if_neg (by omega)]
    · refine ⟨fun _ => .inr (by omega), fun e => ?_⟩
      unfold saveR at e
      rw [if_pos (by omega)] at e
      exact absurd (show (2 : Int) = 0 from e) (by decide)
  · refine ⟨fun _ => .inl h1, fun e => ?_⟩
    have hb1 : (d.set (-1)).burnt = true := h1
    unfold saveR at e
    split at e
    · exact absurd (show (2 : Int) = 0 from e) (by decide)
    · split at e
      · exact absurd (show (63 : Int) = 0 from e) (by decide)
      · exact absurd e (burnt_run_err hb1 (saveV_ne _ _ _ _ _ _))
/-- A CRASH AMID A SAVE LEAVES THE OLD STATE, OR THE NEW ONE. -/
theorem amid_plain (hH : HeadOk hd) (h : MadeV hd k d) (hk : k ≤ 1000) (b : List UInt8) (fuse again : Int) (hf : -9223372036854775808 ≤ fuse ∧ fuse ≤ 9223372036854775807) (ha : -9223372036854775808 ≤ again ∧ again ≤ 9223372036854775807) (keep other : List Bool) :
    let d0 := d.crash []
    let r0 := recR hd d0 1 2
    let r1 := saveR hd (r0.2.set fuse) 1 2 b
    let r2 := recR hd ((r1.2.crash keep).set again) 1 2
    let r3 := recR hd (r2.2.crash other) 1 2
    r0.2.pend.length ≤ 201 ∧ r1.2.pend.length ≤ 201 ∧ r2.2.pend.length ≤ 201 ∧ r0.1.2.1 ≤ k ∧
    ((r3.1 = r0.1) ∨ (r3.1 = (b, r0.1.2.1 + 1, 0))) ∧ (r1.1 = 0 → r3.1 = (b, r0.1.2.1 + 1, 0)) ∧
    ((cleanV r3.2.now (lowOf 1 2 0) 2 || cleanV r3.2.now (lowOf 1 2 1) 2) = true ∨ r3.1.2.2 = 62) := by
  intro d0 r0 r1 r2 r3
  obtain ⟨C, s, b0, q, hq, hl, hc, hh⟩ := h.crashed []
  obtain ⟨e0, f0, C0, c0, l0, h0, k0⟩ := rec_free hc (Free.crash d []) hh
  have c0' : Calm (r0.2.set fuse) C0 := Calm.set c0 hf
  -- behind the save and any crash
  have main : r1.2.pend.length ≤ 201 ∧ ∃ C4 s4 b4 q4, Calm (r1.2.crash keep) C4 ∧ Holds hd 1 2 C4 s4 b4 q4 ∧ ((s4 = s ∧ b4 = b0 ∧ q4 = q) ∨ (b4 = b ∧ q4 = q + 1)) ∧ (r1.1 = 0 → b4 = b ∧ q4 = q + 1) := by
    by_cases hb : b.length ≤ 512
    · have e : r1 = (r0.2.set fuse).run (saveV 1 2 s q b hd) := by
        show saveR hd (r0.2.set fuse) 1 2 b = _
        unfold saveR
        rw [if_neg (by omega), best_calm c0' h0, if_neg (by show ¬ q = _; omega)]
      rw [e]
      rcases save_run (b := b) hH c0' h0 (by omega) (by omega) (by omega) with ⟨e1, C', c1, l1, h1, _⟩ | ⟨e1, u, p, h1⟩
      · exact ⟨by rw [c1.pend]; exact Nat.zero_le _, C', 1 - s, b, q + 1, c1.crash keep, h1, .inr ⟨rfl, rfl⟩, fun _ => ⟨rfl, rfl⟩⟩
      · obtain ⟨C', c1, l1, h2⟩ := h1 keep
        rcases h2 with h2 | h2
        · exact ⟨p, C', s, b0, q, c1, h2, .inl ⟨rfl, rfl, rfl⟩, fun h => by rw [e1] at h; cases h⟩
        · exact ⟨p, C', 1 - s, b, q + 1, c1, h2, .inr ⟨rfl, rfl⟩, fun h => by rw [e1] at h; cases h⟩
    · have e : r1 = (2, r0.2.set fuse) := by
        show saveR hd (r0.2.set fuse) 1 2 b = _
        unfold saveR
        rw [if_pos (by omega)]
      rw [e]
      exact ⟨by rw [c0'.pend]; exact Nat.zero_le _, C0, s, b0, q, c0'.crash keep, h0, .inl ⟨rfl, rfl, rfl⟩, fun h => by cases h⟩
  obtain ⟨p1, C4, s4, b4, q4, c4, h4, w4, n4⟩ := main
  obtain ⟨p2, C6, c6, l6, h6⟩ := rec_any (c4.set ha) h4 other
  obtain ⟨e7, f7, C7, c7, l7, h7, k7⟩ := rec_free c6 (Free.crash _ other) h6
  have er0 : r0.1 = (b0, q, if q = 0 then 62 else 0) := e0
  have er3 : r3.1 = (b4, q4, if q4 = 0 then 62 else 0) := e7
  have hc7 : Calm r3.2 C7 := c7
  refine ⟨by show r0.2.pend.length ≤ 201; rw [show r0.2.pend = [] from c0.pend]; exact Nat.zero_le _, p1, p2, by rw [er0]; exact hq, ?_, fun hr => ?_, ?_⟩
  · rcases w4 with ⟨_, rfl, rfl⟩ | ⟨rfl, rfl⟩
    · exact .inl (er3.trans er0.symm)
    · right
      rw [er3, er0, if_neg (by omega)]
  · obtain ⟨rfl, rfl⟩ := n4 hr
    rw [er3, er0, if_neg (by omega)]
  · by_cases hq4 : q4 = 0
    · right
      rw [er3, if_pos hq4]
    · left
      rw [hc7.now]
      exact clean_stale (by have := h6.le; omega) (k7 hq4)
/-- EACH SAVE COUNTS ONE MORE. -/
theorem counts_plain (hH : HeadOk hd) {C : List (List UInt8)} {s i : Nat} {b b0 : List UInt8} (h : Calm d C) (hf : Free d) (hh : Holds hd 1 2 C s b0 i) (hi : i ≤ 1000) (hb : b.length ≤ 512) :
    (saveR hd d 1 2 b).1 = 0 ∧ Free (saveR hd d 1 2 b).2 ∧ loadV hd (saveR hd d 1 2 b).2 1 2 = (b, i + 1, 0) ∧ (saveR hd d 1 2 b).2.pend = [] ∧ ∃ C' s', Calm (saveR hd d 1 2 b).2 C' ∧ C'.length = C.length ∧ Holds hd 1 2 C' s' b (i + 1) ∧ (cleanV C' (lowOf 1 2 0) 2 || cleanV C' (lowOf 1 2 1) 2) = true := by
  obtain ⟨e1, f1, C', c1, l1, h1, k1⟩ := save_free hH h hf hh hi hb
  refine ⟨e1, f1, ?_, c1.pend, C', 1 - s, c1, l1, h1, clean_stale hh.le k1⟩
  rw [load_calm c1 h1, if_neg (by omega)]
/-- WHAT IS REFUSED CHANGES NOTHING. -/
theorem refused_plain (hH : HeadOk hd) (hf : Free d) (hok : d.Ok) (at_ n : Int) (b : List UInt8) (hhd : ∀ q b, b.length ≤ 60000 → (hd q b).length ≤ 256) :
    ((saveF hd d at_ n b).1 = 0 → (b.length : Int) ≤ 256 * n) ∧ ((saveF hd d at_ n b).1 ≠ 0 → (saveF hd d at_ n b).2 = d) := by
  unfold saveF
  by_cases hr : rightV d.now.length at_ n = 0
  · rw [if_pos hr]
    unfold rightV at hr
    have h1 : ¬ (n < 1 ∨ 200 < n) := fun h => by rw [if_pos h] at hr; cases hr
    rw [if_neg h1] at hr
    have h2 : ¬ (at_ < 0 ∨ (d.now.length : Int) < at_ ∨ (d.now.length : Int) < at_ + 2 * n + 2) := fun h => by rw [if_pos h] at hr; cases hr
    obtain ⟨N, rfl⟩ : ∃ N : Nat, n = (N : Int) := ⟨n.toNat, by omega⟩
    obtain ⟨A, rfl⟩ : ∃ A : Nat, at_ = (A : Int) := ⟨at_.toNat, by omega⟩
    simp only [Int.toNat_natCast]
    unfold saveR
    by_cases hb : 256 * N < b.length
    · rw [if_pos hb]
      exact ⟨fun h => absurd (show (2 : Int) = 0 from h) (by decide), fun _ => rfl⟩
    · rw [if_neg hb]
      by_cases hm : (bestV d.now A N hd).2.2 = 18446744073709551615
      · rw [if_pos hm]
        exact ⟨fun h => absurd (show (63 : Int) = 0 from h) (by decide), fun _ => rfl⟩
      · rw [if_neg hm]
        have hlow : ∀ t i, t ≤ 1 → i ≤ N → lowOf A N t + i < d.now.length := fun t i ht hi => by
          rcases t with _ | _ | t
          · rw [lowOf_0]; omega
          · rw [lowOf_1]; omega
          · omega
        have hch : chunks b ≤ N := chunks_le (by omega)
        have hbs : (bestV d.now A N hd).1 ≤ 1 := by
          unfold bestV
          dsimp only
          split
          · exact Nat.le_refl _
          · exact Nat.zero_le _
        have hall : (d.run (saveV A N (bestV d.now A N hd).1 (bestV d.now A N hd).2.2 b hd)).1 = 0 := by
          refine hf.run_ok fun x hx => ?_
          unfold saveV at hx
          rcases List.mem_append.1 hx with hx | hx
          · refine phase_ok (fun y hy => ?_) x hx
            obtain ⟨i, hi, rfl⟩ := List.mem_map.1 hy
            have hi2 := List.mem_range.1 hi
            have := hlow (1 - (bestV d.now A N hd).1) (1 + i) (by omega) (by omega)
            exact ⟨by show _ + 1 + i < _; omega, chunk_len b i⟩
          · rcases List.mem_append.1 hx with hx | hx
            · refine phase_ok (fun y hy => ?_) x hx
              rw [List.mem_singleton.1 hy]
              exact ⟨hlow (1 - (bestV d.now A N hd).1) 0 (by omega) (Nat.zero_le _), hhd _ _ (by omega)⟩
            · refine phase_ok (fun y hy => ?_) x hx
              obtain ⟨i, hi, rfl⟩ := List.mem_map.1 hy
              have hi2 := List.mem_range.1 hi
              exact ⟨hlow _ i hbs (by omega), Nat.zero_le _⟩
        exact ⟨fun _ => by omega, fun h => absurd hall h⟩
  · rw [if_neg hr]
    exact ⟨fun h => absurd h hr, fun _ => rfl⟩
end
end Go.Proofs.YtpgbicbjlhkonaaGreatDoor
end
section
namespace Go.Proofs.YtpgbicbjlhkonaaGreatDoor
set_option linter.unusedVariables false
set_option maxRecDepth 20000

/-- So many things are still done. -/
structure LeftN (d : Dev) (m : Nat) : Prop where
  there : d.there = true
  left : d.left = (m : Int)
  up : d.burnt = false
section
variable {d : Dev} {m : Nat} {x : DAct}
theorem LeftN.goes (h : LeftN d (m + 1)) : d.goes = true := by
  unfold Dev.goes
  rw [h.there, h.left, h.up]
  simp
  omega
theorem LeftN.stops (h : LeftN d 0) : d.goes = false := by
  unfold Dev.goes
  rw [h.there, h.left, h.up]
  rfl
theorem LeftN.spend (h : LeftN d (m + 1)) : LeftN d.spend m := by
  refine ⟨h.there, ?_, ?_⟩
  · show (if d.goes && d.there then d.left - 1 else d.left) = _
    rw [h.goes, h.there, if_pos (show (true && true) = true from rfl), h.left]
    push_cast
    omega
  · show (!d.goes) = false
    rw [h.goes]; rfl
theorem LeftN.act (h : LeftN d (m + 1)) (hx : ActOk d.now.length x) : (d.act x).1 = 0 ∧ LeftN (d.act x).2 m := by
  cases x with
  | write i b =>
    have h1 : d.has (i : Int) = true := has_in hx.1
    have h2 : ¬ 256 < b.length := by have := hx.2; omega
    constructor
    · show d.writeE i b = 0
      unfold Dev.writeE
      rw [h1, if_neg (by decide), if_neg h2, h.goes]
      rfl
    · show LeftN (d.write i b) m
      unfold Dev.write
      rw [h1, if_neg (by decide), if_neg h2, h.goes, if_pos rfl]
      exact ⟨h.spend.there, h.spend.left, h.spend.up⟩
  | sync =>
    constructor
    · show d.syncE = 0
      unfold Dev.syncE
      rw [h.goes]
      rfl
    · show LeftN d.sync m
      unfold Dev.sync
      rw [h.goes, if_pos rfl]
      exact ⟨h.spend.there, h.spend.left, h.spend.up⟩
theorem act_len (d : Dev) (x : DAct) : (d.act x).2.now.length = d.now.length := by
  cases x with
  | write i b => exact Dev.write_now i b
  | sync => exact Dev.sync_now
theorem LeftN.run {l : List DAct} (h : LeftN d (l.length + m)) (hl : ∀ x ∈ l, ActOk d.now.length x) : (d.run l).1 = 0 ∧ LeftN (d.run l).2 m := by
  induction l generalizing d with
  | nil => exact ⟨rfl, by rw [show ([] : List DAct).length + m = m by simp] at h; exact h⟩
  | cons x l ih =>
    have e : (x :: l).length + m = (l.length + m) + 1 := by rw [List.length_cons]; omega
    rw [e] at h
    obtain ⟨h0, h1⟩ := h.act (hl x (List.mem_cons_self ..))
    rw [Dev.run_ok l h0]
    exact ih h1 fun y hy => by rw [act_len]; exact hl y (List.mem_cons_of_mem _ hy)
variable {hd : Nat → List UInt8 → List UInt8}
/-- A save of two sectors where three things are done: it goes down ahead of the head, and the old state stands. -/
theorem save_fuse3 (hH : HeadOk hd) {C : List (List UInt8)} {s q : Nat} {b b0 : List UInt8} (h : Calm d C) (hf : Free d) (hh : Holds hd 1 2 C s b0 q) (hq : q ≤ 1000) (hb1 : 256 < b.length) (hb : b.length ≤ 512) :
    (saveR hd (d.set 3) 1 2 b).1 = 61 ∧ (saveR hd (d.set 3) 1 2 b).2.pend.length ≤ 201 ∧ ∃ C', Calm ((saveR hd (d.set 3) 1 2 b).2.crash []) C' ∧ C'.length = C.length ∧ Holds hd 1 2 C' s b0 q := by
  have hc : Calm (d.set 3) C := h.set (by omega)
  have e : saveR hd (d.set 3) 1 2 b = (d.set 3).run (saveV 1 2 s q b hd) := by
    unfold saveR
    rw [if_neg (by omega), best_calm hc hh, if_neg (by show ¬ q = _; omega)]
  have hl3 : LeftN (d.set 3) 3 := ⟨rfl, rfl, hf.2⟩
  have hlen : (phase (dataW (lowOf 1 2 (1 - s)) b)).length = 3 := by
    unfold phase
    rw [List.length_append, List.length_map, dataW_length]
    unfold chunks
    have : (b.length + 255) / 256 = 2 := by omega
    rw [this]
    rfl
  have hfit := fits_data hh (b := b) (by omega)
  have hnow : (d.set 3).now.length = C.length := by rw [hc.now]
  obtain ⟨r1, r2⟩ := LeftN.run (m := 0) (l := phase (dataW (lowOf 1 2 (1 - s)) b)) (d := d.set 3) (by rw [hlen]; exact hl3) (by rw [hnow]; exact phase_ok hfit)
  rw [e]
  unfold saveV
  rw [Dev.run_app _ r1]
  rcases hc.run_phase hfit with ⟨_, c1⟩ | ⟨e1, _⟩
  · have h1 := hh.dataP (b := b) (by omega) (us := dataW (lowOf 1 2 (1 - s)) b) (rs := []) (by simp) (fun _ => true) (padW (dataW (lowOf 1 2 (1 - s)) b)).length
    have l1 : (doneTo (fun _ => true) (padW (dataW (lowOf 1 2 (1 - s)) b)) C (padW (dataW (lowOf 1 2 (1 - s)) b)).length).length = C.length := doneTo_length _ _ _ _
    generalize ((d.set 3).run (phase (dataW (lowOf 1 2 (1 - s)) b))).2 = d1 at c1 r2 ⊢
    generalize doneTo (fun _ => true) (padW (dataW (lowOf 1 2 (1 - s)) b)) C (padW (dataW (lowOf 1 2 (1 - s)) b)).length = C1 at *
    have hlt : lowOf 1 2 (1 - s) < d1.now.length := by
      rw [c1.now]
      have := low_in h1 (t := 1 - s) (i := 0) (by have := hh.le; omega) (Nat.zero_le _)
      exact this
    have hle : (hd (q + 1) b).length = 256 := hH.len _ _ (by omega)
    have hw : d1.act (.write (lowOf 1 2 (1 - s)) (hd (q + 1) b)) = (61, d1.spend) := by
      show (d1.writeE _ _, d1.write _ _) = _
      unfold Dev.writeE Dev.write
      have hn : ¬ 256 < (hd (q + 1) b).length := by omega
      simp only [has_in hlt, if_neg hn, r2.stops]
      rfl
    have hr : d1.run (phase [(lowOf 1 2 (1 - s), hd (q + 1) b)] ++ phase (eraseW (lowOf 1 2 s) 2)) = (61, d1.spend) := by
      show d1.run (.write (lowOf 1 2 (1 - s)) (hd (q + 1) b) :: (.sync :: phase (eraseW (lowOf 1 2 s) 2))) = _
      rw [Dev.run_err _ (by rw [hw]; show (61 : Int) ≠ 0; decide), hw]
    rw [hr]
    refine ⟨rfl, ?_, C1, ?_, l1, h1⟩
    · show d1.pend.length ≤ 201
      rw [c1.pend]
      exact Nat.zero_le _
    · exact c1.amids.spend.crash []
  · rw [r1] at e1
    cases e1
theorem free_new : Free (Dev.new 20) := ⟨rfl, rfl⟩
theorem stale_plain {at_ n : Int} (hr : rightV d.now.length at_ n = 0) (h : (cleanV d.now (lowOf at_.toNat n.toNat 0) n.toNat || cleanV d.now (lowOf at_.toNat n.toNat 1) n.toNat) = true) : staleF d at_ n = (true, 0) := by
  unfold staleF
  rw [if_pos hr, h]
/-- THE CHAPTER'S EXAMPLES. -/
theorem awake_plain (hH : HeadOk hd) (a b c : List UInt8) (ha : a.length ≤ 512) (hb : b.length ≤ 512) (hc1 : 256 < c.length) (hc : c.length ≤ 512) :
    let r1 := saveR hd (Dev.new 20) 1 2 a
    let r2 := saveR hd r1.2 1 2 b
    let r3 := saveR hd (r2.2.set 3) 1 2 c
    let r4 := recR hd (r3.2.crash []) 1 2
    loadV hd (Dev.new 20) 1 2 = ([], 0, 62) ∧ r1.1 = 0 ∧ loadV hd r1.2 1 2 = (a, 1, 0) ∧ (cleanV r1.2.now (lowOf 1 2 0) 2 || cleanV r1.2.now (lowOf 1 2 1) 2) = true ∧
    r3.1 = 61 ∧ r4.1 = (b, 2, 0) ∧ (cleanV r4.2.now (lowOf 1 2 0) 2 || cleanV r4.2.now (lowOf 1 2 1) 2) = true ∧
    r1.2.now.length = 20 ∧ r2.2.now.length = 20 ∧ r3.2.now.length = 20 ∧ r4.2.now.length = 20 ∧ r1.2.pend.length ≤ 201 ∧ r2.2.pend.length ≤ 201 ∧ r3.2.pend.length ≤ 201 ∧ r4.2.pend.length ≤ 201 := by
  intro r1 r2 r3 r4
  have d1 : saveR hd (Dev.new 20) 1 2 a = r1 := rfl
  have d2 : saveR hd r1.2 1 2 b = r2 := rfl
  have d3 : saveR hd (r2.2.set 3) 1 2 c = r3 := rfl
  have d4 : recR hd (r3.2.crash []) 1 2 = r4 := rfl
  clear_value r4
  clear_value r3
  clear_value r2
  clear_value r1
  have hl0 : (Dev.new 20).now.length = 20 := List.length_replicate
  obtain ⟨e1, f1, C1, c1, l1, h1, k1⟩ := save_free (b := a) hH zero_calm free_new zero_holds (by omega) ha
  rw [d1] at e1 f1 c1
  obtain ⟨e2, f2, C2, c2, l2, h2, k2⟩ := save_free (b := b) hH c1 f1 h1 (by omega) hb
  rw [d2] at e2 f2 c2
  obtain ⟨e3, p3, C3, c3, l3, h3⟩ := save_fuse3 hH c2 f2 h2 (by omega) hc1 hc
  rw [d3] at e3 p3 c3
  obtain ⟨e4, f4, C4, c4, l4, h4, k4⟩ := rec_free c3 (Free.crash _ []) h3
  rw [d4] at e4 f4 c4
  have n3 : r3.2.now.length = 20 := by
    rw [← d3]
    have hn2 : (r2.2.set 3).now.length = 20 := by show r2.2.now.length = 20; rw [c2.now, l2, l1, hl0]
    have hall : ∀ (D : Dev) (x : List UInt8), (saveR hd D 1 2 x).2.now.length = D.now.length := fun D x => by
      unfold saveR
      split
      · rfl
      · split
        · rfl
        · exact Dev.run_keeps_len _ _
    rw [hall, hn2]
  refine ⟨?_, e1, ?_, ?_, e3, e4, ?_, ?_, ?_, n3, ?_, ?_, ?_, p3, ?_⟩
  · rw [load_calm zero_calm zero_holds, if_pos rfl]
  · rw [load_calm c1 h1, if_neg (by omega)]
  · rw [c1.now]
    exact clean_stale (s := 1) (by omega) k1
  · rw [c4.now]
    exact clean_stale (by have := h3.le; omega) (k4 (by omega))
  · rw [c1.now, l1, hl0]
  · rw [c2.now, l2, l1, hl0]
  · rw [c4.now, l4, l3, l2, l1, hl0]
  · rw [c1.pend]; exact Nat.zero_le _
  · rw [c2.pend]; exact Nat.zero_le _
  · rw [c4.pend]; exact Nat.zero_le _
end
end Go.Proofs.YtpgbicbjlhkonaaGreatDoor
end
section
namespace Go.Proofs.YtpgbicbjlhkonaaGreatDoor
open Go.RowKit
set_option linter.unusedVariables false
set_option maxRecDepth 20000

set_option maxHeartbeats 1000000 in
theorem Index_any (w : World) (v : Value) (l : List Int) (z : Int) (h : Zs w v l) :
    Calls Tryz.prog 109 #[v, .int .i64 z] w fun e w' => ∃ r : Int, e = .returned (.int .i64 r) ∧ (decide (0 ≤ r) = decide (z ∈ l)) ∧ w = w' := by
  obtain ⟨A, c, rfl, h1, h2, h3⟩ := h
  unfold maxLen at h2
  go_enter Tryz.func109, Tryz.ntmps109
  go_wp2
  go_loopw [8] (fun i wr => ∃ j : Nat, j ≤ l.length ∧ i = .int .i64 (j : Int) ∧ wr = w ∧ z ∉ l.take j) (fun i _ => l.length - (intOf i).toNat)
  case atStart => exact ⟨0, by omega, rfl, rfl, by simp⟩
  case round =>
    obtain ⟨j, hj, rfl, rfl, hn⟩ := hrel
    have HN := Lib.hid hn
    clear hn
    by_cases hlt : j < l.length
    · obtain ⟨b, off, rfl, hc⟩ := h3 (by omega)
      have hcell := hc j hlt
      have hw1 : IntKind.i64.wrap ((j : Int) + 1) = (j : Int) + 1 := IntWalk.i64_in _ (by omega)
      have hq0 : ¬ ((j : Int) < 0) := by omega
      have hlt2 : (j : Int) < (l.length : Int) := by omega
      have HT : Hid (l.take (j + 1) = l.take j ++ [l[j]]) := List.take_succ_eq_append_getElem hlt
      have HM : Hid (l[j] ∈ l) := List.getElem_mem hlt
      obtain ⟨y, hy⟩ : ∃ y, y = l[j] := ⟨_, rfl⟩
      rw [← hy] at hcell HT HM
      clear hc h3 hy
      by_cases hz : z = y
      · subst hz
        have hd : decide (z = z) = true := by simp
        go_wp2
        go_ret
        exact ⟨_, rfl, ⟨fun _ => HM.out, fun _ => by omega⟩, rfl⟩
      · have hd : decide (z = y) = false := by simp [hz]
        go_wp2
        refine ⟨⟨j + 1, by omega, by congr 1, trivial, ?_⟩, ?_⟩
        · rw [HT.out]
          intro hm
          rcases List.mem_append.1 hm with hm | hm
          · exact HN.out hm
          · exact hz (List.mem_singleton.1 hm)
        · show l.length - ((j : Int) + 1).toNat < l.length - (j : Int).toNat
          omega
    · have hj2 : j = l.length := by omega
      subst hj2
      go_wp2
      go_ret
      refine ⟨_, rfl, ?_, rfl⟩
      have := HN.out
      rw [List.take_length] at this
      rw [decide_eq_false this]
      rfl
theorem Contains_any (w : World) (v : Value) (l : List Int) (z : Int) (h : Zs w v l) :
    Calls Tryz.prog 97 #[v, .int .i64 z] w fun e w' => e = .returned (.bool (decide (z ∈ l))) ∧ w = w' := by
  have HC : Hid (∀ w, Zs w v l → Calls Tryz.prog 109 #[v, .int .i64 z] w fun e w' => ∃ r : Int, e = .returned (.int .i64 r) ∧ (decide (0 ≤ r) = decide (z ∈ l)) ∧ w = w') := fun w h => Index_any w v l z h
  have HH := Lib.hid h
  obtain ⟨A, c, rfl, _, _, _⟩ := h
  go_enter Tryz.func97, Tryz.ntmps97
  go_wp2_with fail
  refine (HC.out _ HH.out).mono ?_
  intro e w1 h
  obtain ⟨r, he, hr, hw⟩ := h
  subst he hw
  go_wp2
  go_ret
  exact ⟨by rw [← hr]; rfl, rfl⟩
theorem isNumber_any (w : World) (z : Int) : Calls Tryz.prog 81 #[.int .i64 z] w (RetV w (.bool (isNum z))) := by
  have HC : Hid (∀ w v, Zs w v [1, 2, 4, 8] → Calls Tryz.prog 97 #[v, .int .i64 z] w fun e w' => e = .returned (.bool (isNum z)) ∧ w = w') := fun w v h => by
    have e : isNum z = decide (z ∈ [1, 2, 4, 8]) := by simp [isNum, Bool.decide_or, Bool.or_assoc]; rfl
    rw [e]
    exact Contains_any w v _ z h
  have HN : Hid (∀ w, Calls Tryz.prog 98 #[] w fun e w' => ∃ v, e = .returned v ∧ Zs w' v [1, 2, 4, 8] ∧ Below w.heap.size w w') := fun w => by
    go_enter Tryz.func98, Tryz.ntmps98
    go_wp2
    go_ret
    refine ⟨_, rfl, ⟨_, 4, rfl, by simp, by simp [maxLen], fun _ => ⟨w.heap.size, 0, rfl, fun j hj => ?_⟩⟩, alloc_below _ _⟩
    have hr := (RowAt.new w 3 #[.int .i64 1, .int .i64 2, .int .i64 4, .int .i64 8]).cell
    match j, hj with
    | 0, _ => exact hr 0
    | 1, _ => exact hr 1
    | 2, _ => exact hr 2
    | 3, _ => exact hr 3
  go_enter Tryz.func81, Tryz.ntmps81
  go_wp2_with fail
  refine (HN.out _).mono ?_
  intro e w1 h
  obtain ⟨v, he, hz, hb⟩ := h
  subst he
  have HZ := Lib.hid hz
  have HB := Lib.hid hb
  obtain ⟨A, c, rfl, _, _, _⟩ := hz
  clear hb
  go_wp2_with fail
  refine (HC.out _ _ HZ.out).mono ?_
  intro e w2 h
  obtain ⟨he, hw⟩ := h
  subst he hw
  go_wp2
  go_ret
  exact ⟨rfl, HB.out⟩
theorem clone_any (w : World) (v : Value) (l : List UInt8) (h : Bs w v l) (hl : l.length ≤ 140737488355000) :
    Calls Tryz.prog 79 #[v] w fun e w' => ∃ v', e = .returned v' ∧ OwnB w' w.heap.size 5 v' l ∧ Below w.heap.size w w' := by
  have HH := Lib.hid h
  obtain ⟨A, c, rfl, h1, h2, h3⟩ := h
  rcases A with _ | ad
  · have hl0 : l = [] := by
      rcases l with _ | ⟨b, l⟩
      · rfl
      · obtain ⟨_, _, h, _⟩ := h3 (by simp)
        cases h
    subst hl0
    clear h3
    have hq : ∀ (w : World), (binOp .eql 38 (.slice none 0 c) (.slice none 0 0)).run Tryz.prog w = .ok (.bool true) w := fun w => Lib.run_eql_slice_nil w _ _ none 0 c 0 0 Tryz.underlying38
    go_enter Tryz.func79, Tryz.ntmps79
    go_wp2
    go_ret
    exact ⟨_, rfl, OwnB.nil _ _ _, Below.refl _ _⟩
  · clear h3
    have hq : ∀ (w : World), (binOp .eql 38 (.slice (some ad) l.length c) (.slice none 0 0)).run Tryz.prog w = .ok (.bool false) w := fun w => Lib.run_eql_slice_nil w _ _ (some ad) l.length c 0 0 Tryz.underlying38
    have E : Hid (OwnB (w.alloc (.cells #[] 5)) w.heap.size 5 (.slice (some ⟨w.heap.size, 0, none⟩) 0 0) []) := World.ownsRow_lit (base := w.heap.size) (e := 5) (size := 1) w #[] 0 (Nat.le_refl _) (by simp [maxLen]) rfl
    have hb := alloc_below w (.cells #[] 5)
    have HB := Lib.hid hb
    clear hb
    go_enter Tryz.func79, Tryz.ntmps79
    go_wp2_with (at_builtin; refine wpList_appB _ (o := ⟨some 7, _, _, _, _, _⟩) rfl (.tmp 5) (.tmp 6) 38 rfl w 5 (by kernel_rfl) Tryz.underlying38 _ _ [] l rfl rfl E.out (HH.out.below HB.out) (by simp; omega) HB.out ?_; intro v6 w6 own6 b6)
    go_ret
    exact ⟨_, rfl, own6, b6⟩
end Go.Proofs.YtpgbicbjlhkonaaGreatDoor
end
