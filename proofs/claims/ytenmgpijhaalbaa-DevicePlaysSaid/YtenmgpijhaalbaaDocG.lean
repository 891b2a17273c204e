/-
  The program's device and the document's, side by side; 'same' answers true. Conditions: as each theorem names them.
-/
import Derived.Test.YtenmgpijhaalbaaDocF
namespace Go.Proofs.Ytenmgpijhaalbaa
open Go.RowKit
set_option linter.unusedVariables false
set_option maxRecDepth 20000

theorem Sim.fuseOk {d : Dev} {a : Ab} (h : Sim d a) : a.goes = true → a.fused = true → 0 ≤ a.left := fun hg hf => by
  rw [h.goes] at hg
  have hb0 : d.burnt = false := by
    cases hb : d.burnt
    · rfl
    · simp [Dev.goes, hb] at hg
  obtain ⟨h1, h2⟩ := h.fuse hb0
  rw [h1] at hf
  rw [h2 hf]
  exact h.ok.fuse hf
theorem Sim.inS {d : Dev} {a : Ab} (h : Sim d a) {w : World} {R : Nat → Prop} {g : Nat} {vs vp : Value} {ss : List (List UInt8 × Value)} {ps : List (Nat × List UInt8 × Value)} (h2 : DocIs w R g vs vp ss ps a) : ∀ x ∈ ps, x.1 < ss.length := fun x hx => by
  have hm : (x.1, x.2.1) ∈ d.pend := by
    rw [← h.pend, h2.isP]
    exact List.mem_map.2 ⟨x, hx, rfl⟩
  have := (h.ok.pend _ hm).1
  rw [← h2.lenS, h.len]
  exact this
theorem docRead_sim (w : World) (R : Nat → Prop) (g : Nat) (vs vp : Value) (ss : List (List UInt8 × Value)) (ps : List (Nat × List UInt8 × Value)) (a : Ab) (d : Dev) (h : DocIs w R g vs vp ss ps a) (hs : Sim d a) (hp : d.pend.length ≤ 1000000) (i : Int) :
    Calls Try.prog 39 #[.pointer (some ⟨g, 0, none⟩), .int .i64 i] w fun e w' => ∃ v, e = .returned (.tuple #[v, .int .i64 (d.readE i)]) ∧ Bs w' v (d.readB i) ∧ Below w.heap.size w w' := by
  have hl := hs.len
  have hls := h.lenS
  have hps := h.lenP
  have hpp := hs.pend
  have hm := hs.ok.most
  by_cases hi : d.has i = true
  · have h2 := Dev.has_lt hi
    obtain ⟨j, rfl⟩ : ∃ j : Nat, i = (j : Int) := ⟨i.toNat, by omega⟩
    have hj : j < d.now.length := by simpa using h2.2
    refine (docRead_any w R g vs vp ss ps a h j (by omega) (by rw [← hps, hpp]; exact hp) (by omega)).mono ?_
    rintro e w' ⟨v, l, rfl, hb, hal, hbl⟩
    rw [hs.all, List.getElem?_eq_getElem hj] at hal
    rw [Dev.readE_in hj, Dev.readB_in hj, Option.some.inj hal]
    exact ⟨v, rfl, hb, hbl⟩
  · simp only [Bool.not_eq_true] at hi
    refine (docRead_none w R g vs vp ss ps a h i ?_).mono ?_
    · by_cases h0 : i < 0
      · exact .inl h0
      · right
        rw [hl]
        unfold Dev.has at hi
        rw [decide_eq_true (by omega), Bool.true_and] at hi
        have := of_decide_eq_false hi
        omega
    · rintro e w' ⟨rfl, hb⟩
      have e1 : d.readE i = 60 := by unfold Dev.readE; rw [hi]; rfl
      have e2 : d.readB i = [] := by unfold Dev.readB; rw [hi]; rfl
      rw [e1, e2]
      exact ⟨_, rfl, Bs.nil _, hb⟩
set_option maxHeartbeats 4000000 in
theorem same_any (w0 w : World) (gd g : Nat) (d : Dev) (R : Nat → Prop) (vs vp : Value) (ss : List (List UInt8 × Value)) (ps : List (Nat × List UInt8 × Value)) (a : Ab) (hd : DevOf w0 w gd d) (h : DocIs w R g vs vp ss ps a) (hs : Sim d a) (hp : d.pend.length ≤ 1000000) :
    Calls Try.prog 21 #[.pointer (some ⟨gd, 0, none⟩), .pointer (some ⟨g, 0, none⟩)] w (RetV w (.bool true)) := by
  have HD := Lib.hid hd
  have HH := Lib.hid h
  have hm := hs.ok.most
  have HRd : Hid (∀ (i : Int) w1, DevOf w0 w1 gd d → Calls Try.prog 25 #[.pointer (some ⟨gd, 0, none⟩), .int .i64 i] w1 fun e w' => ∃ v, e = .returned (.tuple #[v, .int .i64 (d.readE i)]) ∧ OwnB w' w1.heap.size 5 v (d.readB i) ∧ Below w1.heap.size w1 w') := fun i w1 h => devRead_of h i
  have HRr : Hid (∀ (i : Int) w1, DocIs w1 R g vs vp ss ps a → Calls Try.prog 39 #[.pointer (some ⟨g, 0, none⟩), .int .i64 i] w1 fun e w' => ∃ v, e = .returned (.tuple #[v, .int .i64 (d.readE i)]) ∧ Bs w' v (d.readB i) ∧ Below w1.heap.size w1 w') := fun i w1 h => docRead_sim w1 R g vs vp ss ps a d h hs hp i
  have HLr : Hid (∀ w1, DocIs w1 R g vs vp ss ps a → Calls Try.prog 38 #[.pointer (some ⟨g, 0, none⟩)] w1 (RetV w1 (.int .i64 (d.now.length : Int)))) := fun w1 h => hs.len ▸ docLen_any w1 R g vs vp ss ps a h
  obtain ⟨pA, pc, hvp, _⟩ := h.pend.shape
  have HP : Hid (vp = .slice pA d.pend.length pc) := by show _ = _; rw [hvp, ← h.lenP, hs.pend]
  have HG : Hid (a.gone = d.burnt) := hs.gone
  clear hvp h hs hd
  go_enter Try.func21, Try.ntmps21
  go_wp2_with fail
  refine (devLen_of HD.out).mono ?_
  rintro e w1 ⟨rfl, b1⟩
  have B1 := Lib.hid b1
  have D1 := Lib.hid (HD.out.kept b1)
  clear b1 HD
  go_wp2_with fail
  refine (devPending_of D1.out).mono ?_
  rintro e w2 ⟨rfl, b2⟩
  have B2 := Lib.hid (below_size B1.out b2)
  have D2 := Lib.hid (D1.out.kept b2)
  clear b2 D1 B1
  go_wp2_with fail
  refine (devDown_of D2.out).mono ?_
  rintro e w3 ⟨rfl, b3⟩
  have B3 := Lib.hid (below_size B2.out b3)
  have D3 := Lib.hid (D2.out.kept b3)
  clear b3 D2 B2
  go_wp2_with fail
  refine (HLr.out w3 (HH.out.kept B3.out)).mono ?_
  rintro e w4 ⟨rfl, b4⟩
  have B4 := Lib.hid (below_size B3.out b4)
  have D4 := Lib.hid (D3.out.kept b4)
  have H4 := Lib.hid (HH.out.kept B4.out)
  have c1 := H4.out.cell 1 _ rfl
  have c4 := H4.out.cell 4 _ rfl
  rw [HP.out] at c1
  rw [HG.out] at c4
  have hne : decide (d.burnt = d.burnt) = true := by simp
  clear b4 D3 B3 HH HLr
  go_wp2_with fail
  go_loopw [8] (fun u wr => ∃ z : Nat, z ≤ d.now.length + 2 ∧ u = .int .i64 ((z : Int) - 1) ∧ Hid (Below w4.heap.size w4 wr)) (fun u _ => d.now.length + 2 - (intOf u + 1).toNat)
  case atStart => exact ⟨0, by omega, rfl, Below.refl _ _⟩
  case round =>
    obtain ⟨z, hz, rfl, HB⟩ := hrel
    by_cases hlt : z ≤ d.now.length + 1
    · have hd1 : decide ((z : Int) - 1 ≤ (d.now.length : Int)) = true := by simp; omega
      have hw : IntKind.i64.wrap ((z : Int) - 1 + 1) = (z : Int) := by rw [IntWalk.i64_in _ (by omega)]; omega
      go_wp2_with fail
      refine (HRd.out _ wr (D4.out.kept HB.out)).mono ?_
      rintro e w5 ⟨v5, rfl, o5, b5⟩
      have S5 := Lib.hid o5.bs
      have B5 := Lib.hid (below_size HB.out b5)
      clear o5 b5 HB
      go_wp2_with fail
      refine (HRr.out _ w5 (H4.out.kept B5.out)).mono ?_
      rintro e w6 ⟨v6, rfl, s6, b6⟩
      have S6 := Lib.hid s6
      have S5' := Lib.hid (S5.out.below b6)
      have B6 := Lib.hid (below_size B5.out b6)
      clear s6 b6 S5 B5
      go_wp2_with fail
      refine (same_yes _ _ _ _ S5'.out S6.out).mono ?_
      rintro e w7 ⟨rfl, b7⟩
      have B7 := Lib.hid (below_size B6.out b7)
      clear b7 S5' S6 B6
      go_wp2_with fail
      refine ⟨⟨z + 1, by omega, by congr 1; omega, B7⟩, ?_⟩
      show d.now.length + 2 - ((z : Int) + 1).toNat < d.now.length + 2 - ((z : Int) - 1 + 1).toNat
      omega
    · have hd1 : decide ((z : Int) - 1 ≤ (d.now.length : Int)) = false := by simp; omega
      go_wp2
      go_ret
      exact ⟨rfl, below_size B4.out HB.out⟩
/-- Both devices of the call's own, no block of the one among the other's. -/
def Two (w0 w : World) (gd : Nat) (d : Dev) (g : Nat) (a : Ab) : Prop :=
  Below w0.heap.size w0 w ∧ ∃ F R : Nat → Prop, DevIn w F gd d ∧ DocIn w R g a ∧ (∀ k, F k → ¬ R k ∧ k ≠ g) ∧ (∀ k, F k → w0.heap.size ≤ k ∧ k < w.heap.size) ∧ (∀ k, R k → w0.heap.size ≤ k ∧ k < w.heap.size) ∧ w0.heap.size ≤ g
section
variable {w0 w w' : World} {gd g : Nat} {d d' : Dev} {a a' : Ab}
theorem DocIn.turned {F R : Nat → Prop} (h : DocIn w R g a) (ht : Turns F w w') (hF : ∀ k, R k → ¬ F k) (hg : ¬ F g) : DocIn w' R g a := by
  obtain ⟨vs, vp, ss, ps, h⟩ := h
  exact ⟨vs, vp, ss, ps, h.turned ht hF hg⟩
theorem DocIn.lt {R : Nat → Prop} (h : DocIn w R g a) : g < w.heap.size := by
  obtain ⟨vs, vp, ss, ps, h⟩ := h
  exact h.row.lt
theorem Two.kept (h : Two w0 w gd d g a) (hb : Below w.heap.size w w') : Two w0 w' gd d g a := by
  obtain ⟨b, F, R, h1, h2, h3, h4, h5, h6⟩ := h
  have hs := hb.size
  exact ⟨below_size b hb, F, R, h1.turned (G := fun _ => False) (Turns.of_below _ hb) fun _ _ h => h, h2.turned (F := fun _ => False) (Turns.of_below _ hb) (fun _ _ h => h) fun h => h, h3, fun k hk => ⟨(h4 k hk).1, Nat.lt_of_lt_of_le (h4 k hk).2 hs⟩, fun k hk => ⟨(h5 k hk).1, Nat.lt_of_lt_of_le (h5 k hk).2 hs⟩, h6⟩
theorem Two.of (h : Two w0 w gd d g a) : DevOf w0 w gd d := by
  obtain ⟨b, F, R, ⟨gn, cn, gs, cs, vp, hd, hF⟩, h2, h3, h4, h5, h6⟩ := h
  exact ⟨b, gn, cn, gs, cs, vp, hd, fun k hk => (h4 k (hF k hk)).1⟩
theorem Two.dev (h : Two w0 w gd d g a) {f : FuncId} {args : Array Value} {Pr : Program} {v : Value} (hc : ∀ gn cn gs cs vp, DevIs w gd gn cn gs cs vp d → (∀ k, Foot gd gn gs vp k → w0.heap.size ≤ k) → Calls Pr f args w (DevRet w gd gn cn gs cs vp d' v)) :
    Calls Pr f args w fun e w' => e = .returned v ∧ Two w0 w' gd d' g a := by
  obtain ⟨b, F, R, ⟨gn, cn, gs, cs, vp, hd, hF⟩, h2, h3, h4, h5, h6⟩ := h
  refine (hc gn cn gs cs vp hd fun k hk => (h4 k (hF k hk)).1).mono fun e w' ⟨vp', he, hd', ht, hv⟩ => ⟨he, ?_⟩
  have ht2 : Turns F w w' := ht.mono fun k _ hk => hF k hk
  have hsz := ht.size
  have hgl := h2.lt
  refine ⟨ht2.below b b.size fun k hk => (h4 k hk).1, Wide F w w', R, ⟨gn, cn, gs, cs, vp', hd', fun k hk => ?_⟩, h2.turned ht2 (fun k hr hf => (h3 k hf).1 hr) (fun hf => (h3 g hf).2 rfl), fun k hk => ?_, fun k hk => ?_, fun k hk => ⟨(h5 k hk).1, Nat.lt_of_lt_of_le (h5 k hk).2 hsz⟩, h6⟩
  · rcases hk with hk | hk | hk | hk
    · exact .inl (hF k (.inl hk))
    · exact .inl (hF k (.inr (.inl hk)))
    · exact .inl (hF k (.inr (.inr (.inl hk))))
    · rcases hv k hk with h | h
      · exact .inl (hF k (.inr (.inr (.inr h))))
      · exact .inr ⟨h, hd'.lt (.inr (.inr (.inr hk)))⟩
  · rcases hk with hk | hk
    · exact h3 k hk
    · exact ⟨fun hr => by have := (h5 k hr).2; omega, by omega⟩
  · rcases hk with hk | hk
    · have := h4 k hk
      omega
    · have := b.size
      omega
theorem Two.doc (h : Two w0 w gd d g a) {f : FuncId} {args : Array Value} {Pr : Program} {v : Value} (hc : ∀ R vs vp ss ps, DocIs w R g vs vp ss ps a → Calls Pr f args w (DocRet w R g a' v)) :
    Calls Pr f args w fun e w' => e = .returned v ∧ Two w0 w' gd d g a' := by
  obtain ⟨b, F, R, h1, ⟨vs, vp, ss, ps, h2⟩, h3, h4, h5, h6⟩ := h
  refine (hc R vs vp ss ps h2).mono fun e w' ⟨he, hd', ht⟩ => ⟨he, ?_⟩
  have hsz := ht.size
  have hgl := h2.row.lt
  refine ⟨ht.below b b.size fun k hk => hk ▸ h6, F, Wide R w w', h1.turned ht fun k hk => (h3 k hk).2, hd', fun k hk => ⟨fun hr => ?_, (h3 k hk).2⟩, fun k hk => ⟨(h4 k hk).1, Nat.lt_of_lt_of_le (h4 k hk).2 hsz⟩, fun k hk => ?_, h6⟩
  · rcases hr with hr | hr
    · exact (h3 k hk).1 hr
    · have := (h4 k hk).2
      omega
  · rcases hk with hk | hk
    · have := h5 k hk
      omega
    · have := b.size
      omega
theorem Two.copyD (h : Two w0 w gd d g a) {g' : Nat} (hd : DevOf w w' g' d) : Two w0 w' g' d g a := by
  obtain ⟨b, F, R, h1, h2, h3, h4, h5, h6⟩ := h
  obtain ⟨b2, gn, cn, gs, cs, vp, hd, hF⟩ := hd
  have hgl := h2.lt
  have hs := b2.size
  have hs0 := b.size
  exact ⟨below_size b b2, fun k => w.heap.size ≤ k ∧ k < w'.heap.size, R, ⟨gn, cn, gs, cs, vp, hd, fun k hk => ⟨hF k hk, hd.lt hk⟩⟩, h2.turned (F := fun _ => False) (Turns.of_below _ b2) (fun _ _ h => h) fun h => h, fun k hk => ⟨fun hr => by have := (h5 k hr).2; omega, by omega⟩, fun k hk => ⟨by omega, hk.2⟩, fun k hk => ⟨(h5 k hk).1, Nat.lt_of_lt_of_le (h5 k hk).2 hs⟩, h6⟩
theorem Two.copyR (h : Two w0 w gd d g a) : Calls Try.prog 20 #[.pointer (some ⟨g, 0, none⟩)] w fun e w' => ∃ g', e = .returned (.pointer (some ⟨g', 0, none⟩)) ∧ Two w0 w' gd d g' a := by
  obtain ⟨b, F, R, h1, ⟨vs, vp, ss, ps, h2⟩, h3, h4, h5, h6⟩ := h
  refine (docCopy_any w R g vs vp ss ps a h2 fun k hk => (h5 k hk).2).mono ?_
  rintro e w' ⟨he, hd, hb, hlt⟩
  have hs := hb.size
  have hs0 := b.size
  exact ⟨_, he, below_size b hb, F, R, h1.turned (G := fun _ => False) (Turns.of_below _ hb) fun _ _ h => h, ⟨vs, vp, ss, ps, hd⟩, fun k hk => ⟨(h3 k hk).1, fun e => by have := (h4 k hk).2; omega⟩, fun k hk => ⟨(h4 k hk).1, by have := (h4 k hk).2; omega⟩, fun k hk => ⟨(h5 k hk).1, by have := (h5 k hk).2; omega⟩, hs0⟩
theorem Two.same (h : Two w0 w gd d g a) (hs : Sim d a) (hp : d.pend.length ≤ 1000000) : Calls Try.prog 21 #[.pointer (some ⟨gd, 0, none⟩), .pointer (some ⟨g, 0, none⟩)] w fun e w' => e = .returned (.bool true) ∧ Two w0 w' gd d g a := by
  have h0 := h
  obtain ⟨b, F, R, h1, ⟨vs, vp, ss, ps, h2⟩, h3, h4, h5, h6⟩ := h
  exact (same_any w0 w gd g d R vs vp ss ps a h0.of h2 hs hp).mono fun e w' ⟨he, hb⟩ => ⟨he, h0.kept hb⟩
theorem Two.docWrite (h : Two w0 w gd d g a) (hs : Sim d a) (hp : d.pend.length ≤ 1000000) (i : Int) (vb : Value) (b : List UInt8) (hb : Bs w vb b) : Calls Try.prog 12 #[.pointer (some ⟨g, 0, none⟩), .int .i64 i, vb] w fun e w' => e = .returned (.int .i64 (a.writeE i b)) ∧ Two w0 w' gd d g (a.write i b) :=
  h.doc fun R vs vp ss ps h2 => docWrite_any w R g vs vp ss ps a h2 i vb b hb (by rw [← h2.lenP, hs.pend]; exact hp) (by rw [← h2.lenS, hs.len]; have := hs.ok.most; omega) hs.left hs.fuseOk
theorem Two.docSync (h : Two w0 w gd d g a) (hs : Sim d a) (hp : d.pend.length ≤ 1000000) : Calls Try.prog 14 #[.pointer (some ⟨g, 0, none⟩)] w fun e w' => e = .returned (.int .i64 a.syncE) ∧ Two w0 w' gd d g a.sync :=
  h.doc fun R vs vp ss ps h2 => docSync_any w R g vs vp ss ps a h2 (by rw [← h2.lenP, hs.pend]; exact hp) (by rw [← h2.lenS, hs.len]; have := hs.ok.most; omega) (hs.inS h2) hs.left hs.fuseOk
theorem Two.docCrash (h : Two w0 w gd d g a) (hs : Sim d a) (hp : d.pend.length ≤ 1000000) (vk : Value) (keep : List Bool) (hk : Bls w vk keep) : Calls Try.prog 16 #[.pointer (some ⟨g, 0, none⟩), vk] w fun e w' => e = .returned (.tuple #[]) ∧ Two w0 w' gd d g (a.crash keep) :=
  h.doc fun R vs vp ss ps h2 => docCrash_any w R g vs vp ss ps a h2 vk keep hk (by rw [← h2.lenP, hs.pend]; exact hp) (by rw [← h2.lenS, hs.len]; have := hs.ok.most; omega) (hs.inS h2)
theorem Two.docWrite2 {d0 : Dev} (h : Two w0 w gd d g a) (hs : Sim d0 a) (hp : d0.pend.length ≤ 1000000) (i : Int) (vb : Value) (b : List UInt8) (hb : Bs w vb b) : Calls Try.prog 12 #[.pointer (some ⟨g, 0, none⟩), .int .i64 i, vb] w fun e w' => e = .returned (.int .i64 (a.writeE i b)) ∧ Two w0 w' gd d g (a.write i b) :=
  h.doc fun R vs vp ss ps h2 => docWrite_any w R g vs vp ss ps a h2 i vb b hb (by rw [← h2.lenP, hs.pend]; exact hp) (by rw [← h2.lenS, hs.len]; have := hs.ok.most; omega) hs.left hs.fuseOk
theorem Two.docSync2 {d0 : Dev} (h : Two w0 w gd d g a) (hs : Sim d0 a) (hp : d0.pend.length ≤ 1000000) : Calls Try.prog 14 #[.pointer (some ⟨g, 0, none⟩)] w fun e w' => e = .returned (.int .i64 a.syncE) ∧ Two w0 w' gd d g a.sync :=
  h.doc fun R vs vp ss ps h2 => docSync_any w R g vs vp ss ps a h2 (by rw [← h2.lenP, hs.pend]; exact hp) (by rw [← h2.lenS, hs.len]; have := hs.ok.most; omega) (hs.inS h2) hs.left hs.fuseOk
theorem Two.docCrash2 {d0 : Dev} (h : Two w0 w gd d g a) (hs : Sim d0 a) (hp : d0.pend.length ≤ 1000000) (vk : Value) (keep : List Bool) (hk : Bls w vk keep) : Calls Try.prog 16 #[.pointer (some ⟨g, 0, none⟩), vk] w fun e w' => e = .returned (.tuple #[]) ∧ Two w0 w' gd d g (a.crash keep) :=
  h.doc fun R vs vp ss ps h2 => docCrash_any w R g vs vp ss ps a h2 vk keep hk (by rw [← h2.lenP, hs.pend]; exact hp) (by rw [← h2.lenS, hs.len]; have := hs.ok.most; omega) (hs.inS h2)
theorem Two.docFuse (h : Two w0 w gd d g a) (n : Int) : Calls Try.prog 18 #[.pointer (some ⟨g, 0, none⟩), .int .i64 n] w fun e w' => e = .returned (.tuple #[]) ∧ Two w0 w' gd d g (a.set n) :=
  h.doc fun R vs vp ss ps h2 => (docFuse_any w R g vs vp ss ps a h2 n).mono fun e w' ⟨he, hd, hg⟩ => he ▸ hd.ret h2.row.lt (turns_g hg)
end
end Go.Proofs.Ytenmgpijhaalbaa
