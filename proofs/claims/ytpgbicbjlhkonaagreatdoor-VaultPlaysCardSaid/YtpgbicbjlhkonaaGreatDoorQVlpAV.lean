/-
  Texts that belong together, merged: DocG, CodR, CodS, VltR, VltS, VltU. Conditions: as each theorem names them.
-/
import Derived.Test.YtpgbicbjlhkonaaGreatDoorQVlpAU
import Derived.Test.YtpgbicbjlhkonaaGreatDoorQVlpAO
import Derived.Deep.Onto
import Derived.Test.YtpgbicbjlhkonaaGreatDoorQVlpAL
import Derived.Test.YtpgbicbjlhkonaaGreatDoorQVlpAH
import Derived.Test.YtpgbicbjlhkonaaGreatDoorQVlpAK
section
namespace Go.Proofs.YtpgbicbjlhkonaaGreatDoor
open Go.RowKit
set_option linter.unusedVariables false
set_option maxRecDepth 20000

theorem Sim.fuseOk {d : Dev} {a : Ab} (h : Sim d a) : a.goes = true → a.fused = true → 0 ≤ a.left := fun hg hf => by
  rw [h.goes] at hg
  have hb0 : d.burnt = false := by
    cases hb : d.burnt
    · rfl
    · simp [Dev.goes, hb] at hg
  obtain ⟨h1, h2⟩ := h.fuse hb0
  rw [h1] at hf
  rw [h2 hf]
  exact h.ok.fuse hf
theorem Sim.inS {d : Dev} {a : Ab} (h : Sim d a) {w : World} {R : Nat → Prop} {g : Nat} {vs vp : Value} {ss : List (List UInt8 × Value)} {ps : List (Nat × List UInt8 × Value)} (h2 : DocIs w R g vs vp ss ps a) : ∀ x ∈ ps, x.1 < ss.length := fun x hx => by
  have hm : (x.1, x.2.1) ∈ d.pend := by
    rw [← h.pend, h2.isP]
    exact List.mem_map.2 ⟨x, hx, rfl⟩
  have := (h.ok.pend _ hm).1
  rw [← h2.lenS, h.len]
  exact this
theorem docRead_sim (w : World) (R : Nat → Prop) (g : Nat) (vs vp : Value) (ss : List (List UInt8 × Value)) (ps : List (Nat × List UInt8 × Value)) (a : Ab) (d : Dev) (h : DocIs w R g vs vp ss ps a) (hs : Sim d a) (hp : d.pend.length ≤ 1000000) (i : Int) :
    Calls Tryz.prog 27 #[.pointer (some ⟨g, 0, none⟩), .int .i64 i] w fun e w' => ∃ v, e = .returned (.tuple #[v, .int .i64 (d.readE i)]) ∧ Bs w' v (d.readB i) ∧ Below w.heap.size w w' := by
  have hl := hs.len
  have hls := h.lenS
  have hps := h.lenP
  have hpp := hs.pend
  have hm := hs.ok.most
  by_cases hi : d.has i = true
  · have h2 := Dev.has_lt hi
    obtain ⟨j, rfl⟩ : ∃ j : Nat, i = (j : Int) := ⟨i.toNat, by omega⟩
    have hj : j < d.now.length := by simpa using h2.2
    refine (docRead_any w R g vs vp ss ps a h j (by omega) (by rw [← hps, hpp]; exact hp) (by omega)).mono ?_
    rintro e w' ⟨v, l, rfl, hb, hal, hbl⟩
    rw [hs.all, List.getElem?_eq_getElem hj] at hal
    rw [Dev.readE_in hj, Dev.readB_in hj, Option.some.inj hal]
    exact ⟨v, rfl, hb, hbl⟩
  · simp only [Bool.not_eq_true] at hi
    refine (docRead_none w R g vs vp ss ps a h i ?_).mono ?_
    · by_cases h0 : i < 0
      · exact .inl h0
      · right
        rw [hl]
        unfold Dev.has at hi
        rw [decide_eq_true (by omega), Bool.true_and] at hi
        have := of_decide_eq_false hi
        omega
    · rintro e w' ⟨rfl, hb⟩
      have e1 : d.readE i = 60 := by unfold Dev.readE; rw [hi]; rfl
      have e2 : d.readB i = [] := by unfold Dev.readB; rw [hi]; rfl
      rw [e1, e2]
      exact ⟨_, rfl, Bs.nil _, hb⟩
/-- Both devices of the call's own, no block of the one among the other's. -/
def Two (w0 w : World) (gd : Nat) (d : Dev) (g : Nat) (a : Ab) : Prop :=
  Below w0.heap.size w0 w ∧ ∃ F R : Nat → Prop, DevIn w F gd d ∧ DocIn w R g a ∧ (∀ k, F k → ¬ R k ∧ k ≠ g) ∧ (∀ k, F k → w0.heap.size ≤ k ∧ k < w.heap.size) ∧ (∀ k, R k → w0.heap.size ≤ k ∧ k < w.heap.size) ∧ w0.heap.size ≤ g
section
variable {w0 w w' : World} {gd g : Nat} {d d' : Dev} {a a' : Ab}
theorem DocIn.turned {F R : Nat → Prop} (h : DocIn w R g a) (ht : Turns F w w') (hF : ∀ k, R k → ¬ F k) (hg : ¬ F g) : DocIn w' R g a := by
  obtain ⟨vs, vp, ss, ps, h⟩ := h
  exact ⟨vs, vp, ss, ps, h.turned ht hF hg⟩
theorem DocIn.lt {R : Nat → Prop} (h : DocIn w R g a) : g < w.heap.size := by
  obtain ⟨vs, vp, ss, ps, h⟩ := h
  exact h.row.lt
theorem Two.kept (h : Two w0 w gd d g a) (hb : Below w.heap.size w w') : Two w0 w' gd d g a := by
  obtain ⟨b, F, R, h1, h2, h3, h4, h5, h6⟩ := h
  have hs := hb.size
  exact ⟨below_size b hb, F, R, h1.turned (G := fun _ => False) (Turns.of_below _ hb) fun _ _ h => h, h2.turned (F := fun _ => False) (Turns.of_below _ hb) (fun _ _ h => h) fun h => h, h3, fun k hk => ⟨(h4 k hk).1, Nat.lt_of_lt_of_le (h4 k hk).2 hs⟩, fun k hk => ⟨(h5 k hk).1, Nat.lt_of_lt_of_le (h5 k hk).2 hs⟩, h6⟩
theorem Two.of (h : Two w0 w gd d g a) : DevOf w0 w gd d := by
  obtain ⟨b, F, R, ⟨gn, cn, gs, cs, vp, hd, hF⟩, h2, h3, h4, h5, h6⟩ := h
  exact ⟨b, gn, cn, gs, cs, vp, hd, fun k hk => (h4 k (hF k hk)).1⟩
theorem Two.dev (h : Two w0 w gd d g a) {f : FuncId} {args : Array Value} {Pr : Program} {v : Value} (hc : ∀ gn cn gs cs vp, DevIs w gd gn cn gs cs vp d → (∀ k, Foot gd gn gs vp k → w0.heap.size ≤ k) → Calls Pr f args w (DevRet w gd gn cn gs cs vp d' v)) :
    Calls Pr f args w fun e w' => e = .returned v ∧ Two w0 w' gd d' g a := by
  obtain ⟨b, F, R, ⟨gn, cn, gs, cs, vp, hd, hF⟩, h2, h3, h4, h5, h6⟩ := h
  refine (hc gn cn gs cs vp hd fun k hk => (h4 k (hF k hk)).1).mono fun e w' ⟨vp', he, hd', ht, hv⟩ => ⟨he, ?_⟩
  have ht2 : Turns F w w' := ht.mono fun k _ hk => hF k hk
  have hsz := ht.size
  have hgl := h2.lt
  refine ⟨ht2.below b b.size fun k hk => (h4 k hk).1, Wide F w w', R, ⟨gn, cn, gs, cs, vp', hd', fun k hk => ?_⟩, h2.turned ht2 (fun k hr hf => (h3 k hf).1 hr) (fun hf => (h3 g hf).2 rfl), fun k hk => ?_, fun k hk => ?_, fun k hk => ⟨(h5 k hk).1, Nat.lt_of_lt_of_le (h5 k hk).2 hsz⟩, h6⟩
  · rcases hk with hk | hk | hk | hk
    · exact .inl (hF k (.inl hk))
    · exact .inl (hF k (.inr (.inl hk)))
    · exact .inl (hF k (.inr (.inr (.inl hk))))
    · rcases hv k hk with h | h
      · exact .inl (hF k (.inr (.inr (.inr h))))
      · exact .inr ⟨h, hd'.lt (.inr (.inr (.inr hk)))⟩
  · rcases hk with hk | hk
    · exact h3 k hk
    · exact ⟨fun hr => by have := (h5 k hr).2; omega, by omega⟩
  · rcases hk with hk | hk
    · have := h4 k hk
      omega
    · have := b.size
      omega
theorem Two.doc (h : Two w0 w gd d g a) {f : FuncId} {args : Array Value} {Pr : Program} {v : Value} (hc : ∀ R vs vp ss ps, DocIs w R g vs vp ss ps a → Calls Pr f args w (DocRet w R g a' v)) :
    Calls Pr f args w fun e w' => e = .returned v ∧ Two w0 w' gd d g a' := by
  obtain ⟨b, F, R, h1, ⟨vs, vp, ss, ps, h2⟩, h3, h4, h5, h6⟩ := h
  refine (hc R vs vp ss ps h2).mono fun e w' ⟨he, hd', ht⟩ => ⟨he, ?_⟩
  have hsz := ht.size
  have hgl := h2.row.lt
  refine ⟨ht.below b b.size fun k hk => hk ▸ h6, F, Wide R w w', h1.turned ht fun k hk => (h3 k hk).2, hd', fun k hk => ⟨fun hr => ?_, (h3 k hk).2⟩, fun k hk => ⟨(h4 k hk).1, Nat.lt_of_lt_of_le (h4 k hk).2 hsz⟩, fun k hk => ?_, h6⟩
  · rcases hr with hr | hr
    · exact (h3 k hk).1 hr
    · have := (h4 k hk).2
      omega
  · rcases hk with hk | hk
    · have := h5 k hk
      omega
    · have := b.size
      omega
theorem Two.copyD (h : Two w0 w gd d g a) {g' : Nat} (hd : DevOf w w' g' d) : Two w0 w' g' d g a := by
  obtain ⟨b, F, R, h1, h2, h3, h4, h5, h6⟩ := h
  obtain ⟨b2, gn, cn, gs, cs, vp, hd, hF⟩ := hd
  have hgl := h2.lt
  have hs := b2.size
  have hs0 := b.size
  exact ⟨below_size b b2, fun k => w.heap.size ≤ k ∧ k < w'.heap.size, R, ⟨gn, cn, gs, cs, vp, hd, fun k hk => ⟨hF k hk, hd.lt hk⟩⟩, h2.turned (F := fun _ => False) (Turns.of_below _ b2) (fun _ _ h => h) fun h => h, fun k hk => ⟨fun hr => by have := (h5 k hr).2; omega, by omega⟩, fun k hk => ⟨by omega, hk.2⟩, fun k hk => ⟨(h5 k hk).1, Nat.lt_of_lt_of_le (h5 k hk).2 hs⟩, h6⟩
theorem Two.docWrite (h : Two w0 w gd d g a) (hs : Sim d a) (hp : d.pend.length ≤ 1000000) (i : Int) (vb : Value) (b : List UInt8) (hb : Bs w vb b) : Calls Tryz.prog 20 #[.pointer (some ⟨g, 0, none⟩), .int .i64 i, vb] w fun e w' => e = .returned (.int .i64 (a.writeE i b)) ∧ Two w0 w' gd d g (a.write i b) :=
  h.doc fun R vs vp ss ps h2 => docWrite_any w R g vs vp ss ps a h2 i vb b hb (by rw [← h2.lenP, hs.pend]; exact hp) (by rw [← h2.lenS, hs.len]; have := hs.ok.most; omega) hs.left hs.fuseOk
theorem Two.docSync (h : Two w0 w gd d g a) (hs : Sim d a) (hp : d.pend.length ≤ 1000000) : Calls Tryz.prog 44 #[.pointer (some ⟨g, 0, none⟩)] w fun e w' => e = .returned (.int .i64 a.syncE) ∧ Two w0 w' gd d g a.sync :=
  h.doc fun R vs vp ss ps h2 => docSync_any w R g vs vp ss ps a h2 (by rw [← h2.lenP, hs.pend]; exact hp) (by rw [← h2.lenS, hs.len]; have := hs.ok.most; omega) (hs.inS h2) hs.left hs.fuseOk
theorem Two.docCrash (h : Two w0 w gd d g a) (hs : Sim d a) (hp : d.pend.length ≤ 1000000) (vk : Value) (keep : List Bool) (hk : Bls w vk keep) : Calls Tryz.prog 13 #[.pointer (some ⟨g, 0, none⟩), vk] w fun e w' => e = .returned (.tuple #[]) ∧ Two w0 w' gd d g (a.crash keep) :=
  h.doc fun R vs vp ss ps h2 => docCrash_any w R g vs vp ss ps a h2 vk keep hk (by rw [← h2.lenP, hs.pend]; exact hp) (by rw [← h2.lenS, hs.len]; have := hs.ok.most; omega) (hs.inS h2)
theorem Two.docWrite2 {d0 : Dev} (h : Two w0 w gd d g a) (hs : Sim d0 a) (hp : d0.pend.length ≤ 1000000) (i : Int) (vb : Value) (b : List UInt8) (hb : Bs w vb b) : Calls Tryz.prog 20 #[.pointer (some ⟨g, 0, none⟩), .int .i64 i, vb] w fun e w' => e = .returned (.int .i64 (a.writeE i b)) ∧ Two w0 w' gd d g (a.write i b) :=
  h.doc fun R vs vp ss ps h2 => docWrite_any w R g vs vp ss ps a h2 i vb b hb (by rw [← h2.lenP, hs.pend]; exact hp) (by rw [← h2.lenS, hs.len]; have := hs.ok.most; omega) hs.left hs.fuseOk
theorem Two.docSync2 {d0 : Dev} (h : Two w0 w gd d g a) (hs : Sim d0 a) (hp : d0.pend.length ≤ 1000000) : Calls Tryz.prog 44 #[.pointer (some ⟨g, 0, none⟩)] w fun e w' => e = .returned (.int .i64 a.syncE) ∧ Two w0 w' gd d g a.sync :=
  h.doc fun R vs vp ss ps h2 => docSync_any w R g vs vp ss ps a h2 (by rw [← h2.lenP, hs.pend]; exact hp) (by rw [← h2.lenS, hs.len]; have := hs.ok.most; omega) (hs.inS h2) hs.left hs.fuseOk
theorem Two.docCrash2 {d0 : Dev} (h : Two w0 w gd d g a) (hs : Sim d0 a) (hp : d0.pend.length ≤ 1000000) (vk : Value) (keep : List Bool) (hk : Bls w vk keep) : Calls Tryz.prog 13 #[.pointer (some ⟨g, 0, none⟩), vk] w fun e w' => e = .returned (.tuple #[]) ∧ Two w0 w' gd d g (a.crash keep) :=
  h.doc fun R vs vp ss ps h2 => docCrash_any w R g vs vp ss ps a h2 vk keep hk (by rw [← h2.lenP, hs.pend]; exact hp) (by rw [← h2.lenS, hs.len]; have := hs.ok.most; omega) (hs.inS h2)
theorem Two.docFuse (h : Two w0 w gd d g a) (n : Int) : Calls Tryz.prog 15 #[.pointer (some ⟨g, 0, none⟩), .int .i64 n] w fun e w' => e = .returned (.tuple #[]) ∧ Two w0 w' gd d g (a.set n) :=
  h.doc fun R vs vp ss ps h2 => (docFuse_any w R g vs vp ss ps a h2 n).mono fun e w' ⟨he, hd, hg⟩ => he ▸ hd.ret h2.row.lt (turns_g hg)
end
end Go.Proofs.YtpgbicbjlhkonaaGreatDoor
end
section
namespace Go.Proofs.YtpgbicbjlhkonaaGreatDoor
open Go.RowKit
set_option linter.unusedVariables false
set_option maxRecDepth 20000

set_option maxHeartbeats 400000 in
theorem refHigh_own (w : World) (n : Nat) (hn : n < 18446744073709551616) (s : Int) (hs : -9223372036854775808 ≤ s ∧ s ≤ 9223372036854775807) :
    Calls Tryz.prog 53 #[.int .u64 (n : Int), .int .i64 s] w fun e w' => ∃ v, e = .returned v ∧ OwnB w' w.heap.size 5 v (highI n s) ∧ Below w.heap.size w w' := by
  unfold highI
  have hlen := lowI_length n s
  have hc := fun w => refLow_any w n hn s hs
  generalize lowI n s = l at hlen hc ⊢
  have HC := Lib.hid hc
  clear hc
  go_enter Tryz.func53, Tryz.ntmps53
  go_wp2_with (go_at_call 69; refine (HC.out _).mono ?_; rintro e w1 ⟨_, rfl, ⟨A, c, rfl, h1, h2, h3⟩, hb0⟩)
  have HB0 := Lib.hid hb0
  unfold maxLen at h2
  clear hb0
  go_loopw [6, 7] (fun v i wr => ∃ k : Nat, k ≤ l.length ∧ i = .int .i64 ((l.length : Int) - 1 - k) ∧ OwnB wr w1.heap.size 5 v (l.reverse.take k) ∧ Below w1.heap.size w1 wr) (fun _ i _ => (intOf i + 1).toNat)
  case atStart => exact ⟨0, Nat.zero_le _, by simp, OwnB.nil _ _ _, Below.refl _ _⟩
  case round =>
    obtain ⟨k, hk, rfl, hown, hb⟩ := hrel
    have HO := Lib.hid hown
    have HB := Lib.hid hb
    have hsz := hb.size
    clear hown hb
    by_cases hlt : k < l.length
    · obtain ⟨b0, o0, rfl, hc⟩ := h3 (by omega)
      have hcell : wr.cell? ⟨b0, o0 + (l.length - 1 - k), none⟩ = some (.int .u8 ((l[l.length - 1 - k]'(by omega)).toNat : Int)) :=
        (HB.out.cell (p := ⟨b0, o0 + (l.length - 1 - k), none⟩) (World.block_lt_of_cell? w1 _ (hc (l.length - 1 - k) (by omega)))).trans (hc (l.length - 1 - k) (by omega))
      have htk : l.reverse.take (k + 1) = l.reverse.take k ++ [l[l.length - 1 - k]'(by omega)] := by
        rw [List.take_succ_eq_append_getElem (by simpa using hlt), List.getElem_reverse]
      have HT := Lib.hid htk
      clear htk hc h3
      go_wp2_with (at_builtin; refine wpList_appB _ rfl (.tmp 18) (.tmp 23) 38 rfl w1 5 Tryz.infoB Tryz.underlying38 _ _ _ [l[l.length - 1 - k]'(by omega)] rfl rfl (HO.out.alloc _) (Bs.lit1 _ _ _ _ rfl) (by simp; omega) (HB.out.alloc hsz _) ?_; intro v2 w2 hown2 hb2)
      go_roundw
      case rel => exact ⟨k + 1, by omega, by go_num, by rw [HT.out]; exact hown2, hb2⟩
      case measure => simp [intOf]; omega
    · have hks : k = l.length := by omega
      subst hks
      have HO2 : Hid (OwnB wr w1.heap.size 5 u6 l.reverse) := by
        have := HO.out; rwa [List.take_of_length_le (by simp)] at this
      go_wp2
      go_ret
      exact ⟨_, rfl, World.ownsRow.mono HO2.out HB0.out.size, below_size HB0.out HB.out⟩

/-- The document's Out at r. -/
def RoAt (w : World) (r : Nat) (s : St) (S : Nat → Prop) : Prop := ∃ v B, RowAt w r 113 #[v, .int .i64 s.e] ∧ Bs w v B ∧ (s.e = 0 → B = s.l) ∧ U8At w v ∧ ∀ k, v.ownBlock = some k → ¬ S k
theorem RoAt.kept {w w' : World} {r : Nat} {s : St} {S : Nat → Prop} (h : RoAt w r s S) (hb : Below w.heap.size w w') : RoAt w' r s S := by
  obtain ⟨v, B, h1, h2, h3, h4, h5⟩ := h
  exact ⟨v, B, h1.kept hb, h2.below hb, h3, h4.below hb, h5⟩
theorem RoAt.lt {w : World} {r : Nat} {s : St} {S : Nat → Prop} (h : RoAt w r s S) : r < w.heap.size := by obtain ⟨v, B, h1, _⟩ := h; exact h1.lt
theorem RoAt.bs {w w' : World} {r : Nat} {s : St} {S : Nat → Prop} (h : RoAt w r s S) {u : Value} {l : List UInt8} (hb : Bs w u l) (hg : w.grownBy w' (some r)) : Bs w' u l := by
  obtain ⟨v, B, h1, h2, _⟩ := h
  exact hb.turn h1 (no_u8 h2 _) hg

set_option maxHeartbeats 1000000 in
theorem refSize_any (w : World) (z : Int) : Calls Tryz.prog 70 #[.int .i64 z] w fun e w' => e = .returned (.bool (isNum z)) ∧ w = w' := by
  have E : Hid (isNum z = (decide (z = 1) || (decide (z = 2) || (decide (z = 4) || decide (z = 8))))) := by show _ = _; simp [isNum, Bool.or_assoc]; rfl
  rw [E.out]
  clear E
  by_cases h1 : z = 1
  · subst h1
    go_enter Tryz.func70, Tryz.ntmps70
    go_wp2
    go_ret
    exact ⟨rfl, rfl⟩
  · by_cases h2 : z = 2
    · subst h2
      go_enter Tryz.func70, Tryz.ntmps70
      go_wp2
      go_ret
      exact ⟨rfl, rfl⟩
    · by_cases h4 : z = 4
      · subst h4
        go_enter Tryz.func70, Tryz.ntmps70
        go_wp2
        go_ret
        exact ⟨rfl, rfl⟩
      · have d1 : decide (z = 1) = false := by simp [h1]
        have d2 : decide (z = 2) = false := by simp [h2]
        have d4 : decide (z = 4) = false := by simp [h4]
        by_cases h8 : z = 8
        · subst h8
          go_enter Tryz.func70, Tryz.ntmps70
          go_wp2
          go_ret
          exact ⟨rfl, rfl⟩
        · have d8 : decide (z = 8) = false := by simp [h8]
          go_enter Tryz.func70, Tryz.ntmps70
          go_wp2
          go_ret
          exact ⟨by simp [h1, h2, h4, h8], rfl⟩

set_option maxHeartbeats 1000000 in
theorem roAdd_err (w : World) (S : Nat → Prop) (r : Nat) (s : St) (x : Int) (hx : x ≠ 0) (h : RoAt w r s S) :
    Calls Tryz.prog 72 #[.pointer (some ⟨r, 0, none⟩), .int .i64 x, .slice none 0 0] w fun e w' => e = .returned (.tuple #[]) ∧ RoAt w' r (s.fail x) S ∧ w.grownBy w' (some r) := by
  obtain ⟨l, y⟩ := s
  obtain ⟨v, B, hr, hv, hB, hu8, hS5⟩ := h
  have HU8 := Lib.hid hu8
  have HS5 := Lib.hid hS5
  clear hu8 hS5
  have c0 : w.cell? ⟨r, 0, none⟩ = some v := hr.cell 0
  have c1 : w.cell? ⟨r, 1, none⟩ = some (.int .i64 y) := hr.cell 1
  have z1 : w.frozen? ⟨r, 1, none⟩ = false := hr.frozen 1
  have HR := Lib.hid hr
  have HV := Lib.hid hv
  have HB := Lib.hid hB
  obtain ⟨A, c, rfl, _, _, _⟩ := hv
  have hdx : decide (x = 0) = false := by simp [hx]
  clear hr hB
  by_cases hy : y = 0
  · subst hy
    go_enter Tryz.func72, Tryz.ntmps72
    go_wp2
    refine bodyPost_ret (results_none rfl _ _ _) rfl ?_
    refine ⟨rfl, ?_, grown_setCell _ _ _ _⟩
    exact ⟨_, B, HR.out.put 1 (.int .i64 x), HV.out.turn HR.out (no_u8 HV.out 0) (grown_setCell _ _ _ _), fun e => absurd e hx, HU8.out.turn HR.out (by decide) (grown_setCell _ _ _ _), HS5.out⟩
  · have hd : decide (y = 0) = false := by simp [hy]
    go_enter Tryz.func72, Tryz.ntmps72
    go_wp2
    refine bodyPost_ret (results_none rfl _ _ _) rfl ?_
    refine ⟨rfl, ?_, World.grownBy.refl _ _⟩
    unfold St.fail
    rw [if_neg hy]
    exact ⟨_, B, HR.out, HV.out, HB.out, HU8.out, HS5.out⟩

set_option maxHeartbeats 1000000 in
theorem roAdd_ok (w : World) (S : Nat → Prop) (r : Nat) (s : St) (u : Value) (b : List UInt8) (h : RoAt w r s S) (hu : Bs w u b) (hl : s.l.length + b.length ≤ 1000000000) (hS : ∀ k, S k → k < w.heap.size) :
   
    Calls Tryz.prog 72 #[.pointer (some ⟨r, 0, none⟩), .int .i64 0, u] w fun e w' => e = .returned (.tuple #[]) ∧ RoAt w' r (s.put b) S ∧ w.grownBy w' (some r) := by
  have hrl := h.lt
  have HS := Lib.hid hS
  clear hS
  obtain ⟨l, y⟩ := s
  obtain ⟨v, B, hr, hv, hB, hu8, hS5⟩ := h
  have HU8 := Lib.hid hu8
  have HS5 := Lib.hid hS5
  clear hu8 hS5
  have c0 : w.cell? ⟨r, 0, none⟩ = some v := hr.cell 0
  have c1 : w.cell? ⟨r, 1, none⟩ = some (.int .i64 y) := hr.cell 1
  have HR := Lib.hid hr
  have HV := Lib.hid hv
  have HB := Lib.hid hB
  have HU := Lib.hid hu
  obtain ⟨A, c, rfl, _, _, _⟩ := hv
  obtain ⟨A2, c2, rfl, _, _, _⟩ := hu
  simp only at hl hB HR HB
  clear hr
  by_cases hy : y = 0
  · subst hy
    have hBl : B = l := hB rfl
    subst hBl
    clear hB
    have E : Hid (St.put ⟨B, 0⟩ b = ⟨B ++ b, 0⟩) := by show _ = _; unfold St.put; rw [if_pos rfl]
    obtain ⟨m, hm⟩ : ∃ m, m = B ++ b := ⟨_, rfl⟩
    have HM := Lib.hid hm
    rw [← hm] at E
    have AL := alloc_below w (.cells #[] 5)
    have HAL := Lib.hid AL
    have O1 : Hid (OwnB (w.alloc (.cells #[] 5)) w.heap.size 5 (.slice (some ⟨w.heap.size, 0, none⟩) 0 0) []) := World.ownsRow_lit (base := w.heap.size) (e := 5) (size := 1) w #[] 0 (Nat.le_refl _) (by simp [maxLen]) rfl
    clear hm AL
    go_enter Tryz.func72, Tryz.ntmps72
    go_wp2_with (first
      | (at_builtin; refine wpList_appB _ (o := ⟨some 23, _, _, _, _, _⟩) rfl (.tmp 18) (.tmp 22) 38 rfl w 5 Tryz.infoBy Tryz.underlying38 _ _ [] B rfl rfl O1.out (HV.out.below HAL.out) (by simp; omega) HAL.out ?_; intro v6 w6 own6 b6; have O6 : Hid (OwnB w6 w.heap.size 5 v6 B) := own6; have B6 := Lib.hid b6; obtain ⟨A6, c6, rfl, _, _⟩ := O6.out.shape; clear own6 b6)
      | (at_builtin; refine wpList_appB _ (o := ⟨some 25, _, _, _, _, _⟩) rfl (.tmp 23) (.tmp 24) 38 rfl w 5 Tryz.infoBy Tryz.underlying38 _ _ B b rfl rfl O6.out (HU.out.below B6.out) (by omega) B6.out ?_; intro v7 w7 own7 b7; have O7 : Hid (OwnB w7 w.heap.size 5 v7 m) := HM.out ▸ own7; have B7 := Lib.hid b7; have R7 := Lib.hid (HR.out.kept b7); have z0 := R7.out.frozen 0; have d0 : w7.cell? ⟨r, 0, none⟩ = some (.slice A B.length c) := R7.out.cell 0; obtain ⟨A7, c7, rfl, _, _⟩ := O7.out.shape; clear own7 b7))
    go_end0
    rw [E.out]
    have hg := grown_setCell w7 r 0 (.slice A7 m.length c7)
    exact ⟨rfl, ⟨_, m, R7.out.fst _, O7.out.bs.turn R7.out (no_u8 (HV.out.below B7.out) 0) hg, fun _ => rfl, (U8At.of O7.out).turn R7.out (by decide) hg, fun k hk hs => by have := (World.ownsRow.lt O7.out k hk).1; have := HS.out k hs; omega⟩, (grown_any B7.out (some r)).trans hg⟩
  · have hd : decide (y = 0) = false := by simp [hy]
    go_enter Tryz.func72, Tryz.ntmps72
    go_wp2
    refine bodyPost_ret (results_none rfl _ _ _) rfl ?_
    refine ⟨rfl, ?_, World.grownBy.refl _ _⟩
    unfold St.put
    rw [if_neg hy]
    exact ⟨_, B, HR.out, HV.out, HB.out, HU8.out, HS5.out⟩

theorem highI_num (n : Nat) (z : Int) (hz : isNum z = true) : highI n z = (lowB n z.toNat).reverse ∧ ofHighB ((highI n z).take 8) = n % 256 ^ z.toNat ∧ (highI n z).length ≤ 8 := by
  have h8 := inNum_shape z hz
  have e : highI n z = (lowB n z.toNat).reverse := by unfold highI lowI; rw [if_pos (by omega)]
  have hl : (lowB n z.toNat).reverse.length = z.toNat := high_length n _
  refine ⟨e, ?_, by rw [e, hl]; omega⟩
  rw [e, List.take_of_length_le (by rw [hl]; omega)]
  have e2 : ofHighB (lowB n z.toNat).reverse = ofLowB (lowB n z.toNat).reverse.reverse := rfl
  rw [e2, List.reverse_reverse, ofLowB_lowB]

set_option maxHeartbeats 1000000 in
theorem roNumber_any (w : World) (S : Nat → Prop) (r : Nat) (s : St) (n : Nat) (z : Int) (hn : n < 18446744073709551616) (h : RoAt w r s S) (hl : s.l.length ≤ 900000000) (hS : ∀ k, S k → k < w.heap.size) :
   
    Calls Tryz.prog 54 #[.pointer (some ⟨r, 0, none⟩), .int .u64 (n : Int), .int .i64 z] w fun e w' => e = .returned (.tuple #[]) ∧ RoAt w' r (s.wNum n z) S ∧ w.grownBy w' (some r) := by
  have HH := Lib.hid h
  have HS := Lib.hid hS
  clear hS
  have HZ : Hid (∀ w, Calls Tryz.prog 70 #[.int .i64 z] w fun e w' => e = .returned (.bool (isNum z)) ∧ w = w') := fun w => refSize_any w z
  have HX := Lib.hid (fun w h => roAdd_err w S r s 51 (by decide) h)
  clear h
  by_cases hz : isNum z = true
  · obtain ⟨e1, e2, e3⟩ := highI_num n z hz
    have h8 := inNum_shape z hz
    have HN : Hid (∀ w, Calls Tryz.prog 53 #[.int .u64 (n : Int), .int .i64 z] w (RetBs w (highI n z))) := fun w => refHigh_any w n hn z (by omega)
    obtain ⟨hd, hhd⟩ : ∃ hd, hd = highI n z := ⟨_, rfl⟩
    rw [← hhd] at HN e1 e2 e3
    have HP := Lib.hid (fun w u h hu hs => roAdd_ok w S r s u hd h hu (by omega) hs)
    obtain ⟨M, hM⟩ : ∃ M, M = ofHighB (hd.take 8) := ⟨_, rfl⟩
    have HO : Hid (∀ w v, Bs w v hd → Calls Tryz.prog 71 #[v] w fun e w' => e = .returned (.int .u64 (M : Int)) ∧ w = w') := fun w v h => by rw [hM]; exact refOfHigh_any w v hd h
    rw [← hM] at e2
    by_cases hlt : n < 256 ^ z.toNat
    · have E : Hid (s.wNum n z = s.put hd) := by show _ = _; unfold St.wNum; rw [if_pos ⟨hz, hlt⟩, e1]
      rw [Nat.mod_eq_of_lt hlt] at e2
      have hdq : decide ((M : Int) = (n : Int)) = true := by simp [e2]
      rw [hz] at HZ
      subst e2
      clear hM hhd e1 hz hlt h8
      go_enter Tryz.func54, Tryz.ntmps54
      go_wp2_with fail
      refine (HZ.out _).mono ?_
      intro e w1 hh
      obtain ⟨he, hw⟩ := hh
      subst he hw
      go_wp2_with fail
      refine (HN.out _).mono ?_
      intro e w1 hh
      obtain ⟨u1, he, hu1, b1⟩ := hh
      subst he
      have U1 := Lib.hid hu1
      have B1 := Lib.hid b1
      obtain ⟨A1, c1, rfl, _, _, _⟩ := hu1
      clear b1
      go_wp2_with fail
      refine (HO.out _ _ U1.out).mono ?_
      intro e w1' hh
      obtain ⟨he, hw⟩ := hh
      subst he hw
      go_wp2_with fail
      refine (HN.out _).mono ?_
      intro e w2 hh
      obtain ⟨u2, he, hu2, b2⟩ := hh
      subst he
      have U2 := Lib.hid hu2
      have B2 := Lib.hid (below_size B1.out b2)
      obtain ⟨A2, c2, rfl, _, _, _⟩ := hu2
      clear b2
      go_wp2_with fail
      refine (HP.out _ _ (HH.out.kept B2.out) U2.out (fun k hk => Nat.lt_of_lt_of_le (HS.out k hk) B2.out.size)).mono ?_
      intro e w3 hh
      obtain ⟨he, h3, g3⟩ := hh
      subst he
      have H3 := Lib.hid h3
      have G3 := Lib.hid g3
      clear h3 g3
      go_wp2
      go_end0
      exact ⟨rfl, by rw [E.out]; exact H3.out, (grown_any B2.out (some r)).trans G3.out⟩
    · have E : Hid (s.wNum n z = s.fail 51) := by show _ = _; unfold St.wNum; rw [if_neg (fun h => hlt h.2)]
      have hne : M ≠ n := by
        have := Nat.mod_lt n (show 256 ^ z.toNat > 0 from Nat.pos_of_ne_zero (by simp))
        omega
      have hdq : decide ((M : Int) = (n : Int)) = false := by simp; omega
      rw [hz] at HZ
      clear hM hhd e1 hz hlt h8 e2
      go_enter Tryz.func54, Tryz.ntmps54
      go_wp2_with fail
      refine (HZ.out _).mono ?_
      intro e w1 hh
      obtain ⟨he, hw⟩ := hh
      subst he hw
      go_wp2_with fail
      refine (HN.out _).mono ?_
      intro e w1 hh
      obtain ⟨u1, he, hu1, b1⟩ := hh
      subst he
      have U1 := Lib.hid hu1
      have B1 := Lib.hid b1
      obtain ⟨A1, c1, rfl, _, _, _⟩ := hu1
      clear b1
      go_wp2_with fail
      refine (HO.out _ _ U1.out).mono ?_
      intro e w1' hh
      obtain ⟨he, hw⟩ := hh
      subst he hw
      go_wp2_with fail
      refine (HX.out _ (HH.out.kept B1.out)).mono ?_
      intro e w3 hh
      obtain ⟨he, h3, g3⟩ := hh
      subst he
      have H3 := Lib.hid h3
      have G3 := Lib.hid g3
      clear h3 g3
      go_wp2
      refine bodyPost_ret (results_none rfl _ _ _) rfl ?_
      exact ⟨rfl, by rw [E.out]; exact H3.out, (grown_any B1.out (some r)).trans G3.out⟩
  · have E : Hid (s.wNum n z = s.fail 51) := by show _ = _; unfold St.wNum; rw [if_neg (fun h => hz h.1)]
    have hz : isNum z = false := by simpa using hz
    rw [hz] at HZ
    clear hz
    go_enter Tryz.func54, Tryz.ntmps54
    go_wp2_with fail
    refine (HZ.out _).mono ?_
    intro e w1 hh
    obtain ⟨he, hw⟩ := hh
    subst he hw
    go_wp2_with fail
    refine (HX.out _ HH.out).mono ?_
    intro e w2 hh
    obtain ⟨he, h2, g2⟩ := hh
    subst he
    have H2 := Lib.hid h2
    have G2 := Lib.hid g2
    clear h2 g2
    go_wp2
    refine bodyPost_ret (results_none rfl _ _ _) rfl ?_
    exact ⟨rfl, by rw [E.out]; exact H2.out, G2.out⟩

theorem highI_two (n : Nat) : highI n 2 = (lowB n 2).reverse := by
  unfold highI lowI
  rw [if_pos (by omega)]
  rfl
end Go.Proofs.YtpgbicbjlhkonaaGreatDoor
end
section
namespace Go.Proofs.YtpgbicbjlhkonaaGreatDoor
open Go.RowKit
set_option linter.unusedVariables false
set_option maxRecDepth 20000

set_option maxHeartbeats 2000000 in
theorem roKeys_any (w : World) (S : Nat → Prop) (r : Nat) (s : St) (u : Value) (ls : List (List UInt8)) (h : RoAt w r s S) (hu : Kl w u ls) (hl : s.l.length ≤ 900000000) (hS : ∀ k, S k → k < w.heap.size) :
   
    Calls Tryz.prog 55 #[.pointer (some ⟨r, 0, none⟩), u] w fun e w' => e = .returned (.tuple #[]) ∧ RoAt w' r (s.wKey ls) S ∧ w.grownBy w' (some r) := by
  have HH := Lib.hid h
  have HS := Lib.hid hS
  clear hS
  obtain ⟨A, c, rfl, h1, h2, h4, h3⟩ := hu
  unfold maxLen at h2
  have H32 := Lib.hid h4
  clear h h4
  by_cases hb : ls.length > 100
  · have hb2 : (100 : Int) < (ls.length : Int) := by omega
    have E : Hid (s.wKey ls = s.fail 2) := by show _ = _; unfold St.wKey; rw [if_pos hb]
    have HX := Lib.hid (fun w h => roAdd_err w S r s 2 (by decide) h)
    clear h3
    go_enter Tryz.func55, Tryz.ntmps55
    go_wp2_with fail
    refine (HX.out _ HH.out).mono ?_
    intro e w2 hh
    obtain ⟨he, h2, g2⟩ := hh
    subst he
    have H2 := Lib.hid h2
    have G2 := Lib.hid g2
    clear h2 g2
    go_wp2
    refine bodyPost_ret (results_none rfl _ _ _) rfl ?_
    exact ⟨rfl, by rw [E.out]; exact H2.out, G2.out⟩
  · have hb2 : ¬ ((100 : Int) < (ls.length : Int)) := by omega
    have hw : IntKind.u64.wrap (ls.length : Int) = (ls.length : Int) := by rw [IntKind.wrap_u64]; omega
    have E : Hid (s.wKey ls = s.put ((lowB ls.length 2).reverse ++ ls.flatten)) := by show _ = _; unfold St.wKey; rw [if_neg hb, St.put_put]
    have HN : Hid (∀ w, Calls Tryz.prog 53 #[.int .u64 (ls.length : Int), .int .i64 2] w fun e w' => ∃ v, e = .returned v ∧ OwnB w' w.heap.size 5 v (lowB ls.length 2).reverse ∧ Below w.heap.size w w') := fun w => by
      have h := refHigh_own w ls.length (by omega) 2 (by omega)
      rwa [highI_two] at h
    have LN : Hid ((lowB ls.length 2).reverse.length = 2) := high_length _ _
    obtain ⟨hd, hhd⟩ : ∃ hd, hd = (lowB ls.length 2).reverse := ⟨_, rfl⟩
    rw [← hhd] at E HN LN
    have LT : Hid (∀ j, j ≤ ls.length → (hd ++ (ls.take j).flatten).length = 2 + j * 32) := fun j hj => by
      rw [List.length_append, LN.out, flat_len32 _ (fun l hl => H32.out l (List.mem_of_mem_take hl)), List.length_take_of_le hj]
    have HBY := Lib.hid (fun w l hl => refBytes_any w l hl)
    clear hhd
    go_enter Tryz.func55, Tryz.ntmps55
    go_wp2_with fail
    refine (HN.out _).mono ?_
    intro e w1 hh
    obtain ⟨u1, he, ho1, b1⟩ := hh
    subst he
    have O1 : Hid (OwnB w1 w.heap.size 5 u1 (hd ++ (ls.take 0).flatten)) := by show OwnB _ _ _ _ _; rw [List.take_zero, List.flatten_nil, List.append_nil]; exact ho1
    have B1 := Lib.hid b1
    obtain ⟨A1, c1, rfl, _, _⟩ := ho1.shape
    clear ho1 b1 HN
    go_wp2_with fail
    go_loopw [4, 5] (fun v i wr => ∃ j : Nat, j ≤ ls.length ∧ i = .int .i64 (j : Int) ∧ OwnB wr w.heap.size 5 v (hd ++ (ls.take j).flatten) ∧ Below w.heap.size w wr) (fun _ i _ => ls.length - (intOf i).toNat)
    case atStart => exact ⟨0, by omega, rfl, O1.out, B1.out⟩
    case round =>
      clear O1 B1
      obtain ⟨j, hj, rfl, hO, hB⟩ := hrel
      have HO := Lib.hid hO
      have HB := Lib.hid hB
      obtain ⟨VA, vc, hv4, _, _⟩ := hO.shape
      clear hO hB
      by_cases hlt : j < ls.length
      · have hlt2 : (j : Int) < (ls.length : Int) := by omega
        have hw1 : IntKind.i64.wrap ((j : Int) + 1) = (j : Int) + 1 := IntWalk.i64_in _ (by omega)
        have hq0 : ¬ ((j : Int) < 0) := by omega
        obtain ⟨l, hll⟩ : ∃ l, ls[j]? = some l := ⟨_, List.getElem?_eq_getElem hlt⟩
        have L32 : Hid (l.length = 32) := H32.out l (List.mem_of_getElem? hll)
        have HT : Hid (hd ++ (ls.take j).flatten ++ l = hd ++ (ls.take (j + 1)).flatten) := by
          show _ = _
          rw [List.take_add_one, hll, List.flatten_append, List.append_assoc]
          simp
        obtain ⟨b, off, rfl, hr⟩ := h3 (by omega)
        have HR : Hid (wr.rangeAt b (off + j * 32) (cellsB l)) := fun i u hu => by
          have h1 := hr j l hll i u hu
          exact (HB.out.cell (p := ⟨b, off + j * 32 + i, none⟩) (World.block_lt_of_cell? w _ h1)).trans h1
        have HLJ := Lib.hid (LT.out j (by omega))
        obtain ⟨pre, hpre⟩ : ∃ pre, pre = hd ++ (ls.take j).flatten := ⟨_, rfl⟩
        rw [← hpre] at HO HT HLJ hv4
        clear hr hll h3 LT hpre
        subst hv4
        go_wp2_with (with_reducible refine wpList_loadK (o := ⟨some 25, _, _, _, _, _⟩) rfl 117 (.tmp 24) rfl b (off + j * 32) (by with_unfolding_all rfl) l (.array 32 5) (by with_unfolding_all exact HR.out) Tryz.underlying117 rfl (Tryz.sizeKeyM l L32.out) ?_)
        refine (HBY.out wr l L32.out).mono ?_
        intro e w2 hh
        obtain ⟨u2, he, hu2, b2⟩ := hh
        subst he
        have U2 := Lib.hid hu2
        have O2 := Lib.hid (HO.out.below b2)
        have B2 := Lib.hid (HB.out.trans (b2.mono HB.out.size))
        obtain ⟨A2, c2, rfl, _, _, _⟩ := hu2
        clear b2 HO HB HR HBY
        go_wp2_with (at_builtin; refine wpList_appB _ (o := ⟨some 27, _, _, _, _, _⟩) rfl (.tmp 21) (.tmp 26) 38 rfl w 5 Tryz.infoBy Tryz.underlying38 _ _ pre l rfl rfl O2.out U2.out (by have := HLJ.out; have := L32.out; omega) B2.out ?_; intro v7 w7 own7 b7; have O7 : Hid (OwnB w7 w.heap.size 5 v7 (hd ++ (ls.take (j + 1)).flatten)) := HT.out ▸ own7; have B7 := Lib.hid b7; clear own7 b7)
        go_roundw
        case rel => exact ⟨j + 1, by omega, by go_num, O7.out, B7.out⟩
        case measure => simp [intOf]; omega
      · have hj2 : j = ls.length := by omega
        subst hj2
        have HLJ := LT.out ls.length (by omega)
        rw [List.take_length] at HO HLJ hv4
        obtain ⟨m, hm⟩ : ∃ m, m = hd ++ ls.flatten := ⟨_, rfl⟩
        rw [← hm] at HO HLJ hv4 E
        have HP := Lib.hid (fun w u h hu hs => roAdd_ok w S r s u m h hu (by omega) hs)
        clear hm HLJ LT
        subst hv4
        go_wp2_with fail
        refine (HP.out _ _ (HH.out.kept HB.out) HO.out.bs (fun k hk => Nat.lt_of_lt_of_le (HS.out k hk) HB.out.size)).mono ?_
        intro e w3 hh
        obtain ⟨he, h3, g3⟩ := hh
        subst he
        have H3 := Lib.hid h3
        have G3 := Lib.hid g3
        clear h3 g3
        go_wp2
        go_end0
        exact ⟨rfl, by rw [E.out]; exact H3.out, (grown_any HB.out (some r)).trans G3.out⟩

/-- What Done hands back. -/
def St.out (s : St) : List UInt8 := if s.e = 0 then s.l else []
/-- Where there is an error nothing is written. -/
def St.Inv (s : St) : Prop := s.e ≠ 0 → s.l = []
theorem inv_fail (s : St) (x : Int) (h : s.Inv) : (s.fail x).Inv := by
  unfold St.fail St.Inv
  split
  · intro _; rfl
  · exact h
theorem inv_put (s : St) (b : List UInt8) (h : s.Inv) : (s.put b).Inv := by
  unfold St.put St.Inv
  split
  · intro h0; exact absurd rfl h0
  · exact h
theorem out_inv (s : St) (h : s.Inv) : s.out = s.l := by
  unfold St.out
  split
  · rfl
  · rename_i h0; exact (h h0).symm
end Go.Proofs.YtpgbicbjlhkonaaGreatDoor
end
section
namespace Go.Proofs.YtpgbicbjlhkonaaGreatDoor
open Go.RowKit
set_option linter.unusedVariables false
set_option maxRecDepth 20000

theorem refRoom_any (w : World) (n : Int) : Calls Tryz.prog 9 #[.int .i64 n] w (RetV w (.int .i64 (roomV n))) := by
  have hE : Hid (roomV n = if n < 1 ∨ 200 < n then 0 else 256 * n) := by show _ = _; rfl
  by_cases h1 : n < 1
  · have hd1 : decide (n < 1) = true := by simp; omega
    rw [if_pos (.inl h1)] at hE
    go_enter Tryz.func9, Tryz.ntmps9
    go_wp2
    go_ret
    rw [hE.out]
    exact ⟨rfl, Below.refl _ _⟩
  · have hd1 : decide (n < 1) = false := by simp; omega
    by_cases h2 : 200 < n
    · have hd2 : decide (200 < n) = true := by simp; omega
      rw [if_pos (.inr h2)] at hE
      go_enter Tryz.func9, Tryz.ntmps9
      go_wp2
      go_ret
      rw [hE.out]
      exact ⟨rfl, Below.refl _ _⟩
    · have hd2 : decide (200 < n) = false := by simp; omega
      have hw : IntKind.i64.wrap (256 * n) = 256 * n := IntWalk.i64_in _ (by omega)
      rw [if_neg (by omega)] at hE
      go_enter Tryz.func9, Tryz.ntmps9
      go_wp2
      go_ret
      rw [hE.out]
      exact ⟨rfl, Below.refl _ _⟩
section
variable (w : World) (R : Nat → Prop) (g : Nat) (vs vp : Value) (ss : List (List UInt8 × Value)) (ps : List (Nat × List UInt8 × Value)) (a : Ab)
theorem refRight_any (h : DocIs w R g vs vp ss ps a) (at_ n : Int) (hl : a.sure.length ≤ 1000) :
    Calls Tryz.prog 42 #[.pointer (some ⟨g, 0, none⟩), .int .i64 at_, .int .i64 n] w (RetV w (.int .i64 (rightV a.sure.length at_ n))) := by
  have HL : Hid (∀ w1, DocIs w1 R g vs vp ss ps a → Calls Tryz.prog 64 #[.pointer (some ⟨g, 0, none⟩)] w1 (RetV w1 (.int .i64 (a.sure.length : Int)))) := fun w1 h => docLen_any w1 R g vs vp ss ps a h
  have HH := Lib.hid h
  clear h
  generalize a.sure.length = len at hl HL
  have hE : Hid (rightV len at_ n = if n < 1 ∨ 200 < n then 1 else if at_ < 0 ∨ (len : Int) < at_ ∨ (len : Int) < at_ + 2 * n + 2 then 60 else 0) := by show _ = _; rfl
  by_cases h1 : n < 1
  · have hd1 : decide (n < 1) = true := by simp; omega
    rw [if_pos (.inl h1)] at hE
    go_enter Tryz.func42, Tryz.ntmps42
    go_wp2
    go_ret
    rw [hE.out]
    exact ⟨rfl, Below.refl _ _⟩
  have hd1 : decide (n < 1) = false := by simp; omega
  by_cases h2 : 200 < n
  · have hd2 : decide (200 < n) = true := by simp; omega
    rw [if_pos (.inr h2)] at hE
    go_enter Tryz.func42, Tryz.ntmps42
    go_wp2
    go_ret
    rw [hE.out]
    exact ⟨rfl, Below.refl _ _⟩
  have hd2 : decide (200 < n) = false := by simp; omega
  rw [if_neg (by omega)] at hE
  by_cases h3 : at_ < 0
  · have hd3 : decide (at_ < 0) = true := by simp; omega
    rw [if_pos (.inl h3)] at hE
    go_enter Tryz.func42, Tryz.ntmps42
    go_wp2
    go_ret
    rw [hE.out]
    exact ⟨rfl, Below.refl _ _⟩
  have hd3 : decide (at_ < 0) = false := by simp; omega
  by_cases h4 : (len : Int) < at_
  · have hd4 : decide ((len : Int) < at_) = true := by simp; omega
    rw [if_pos (.inr (.inl h4))] at hE
    go_enter Tryz.func42, Tryz.ntmps42
    go_wp2_with fail
    refine (HL.out w HH.out).mono ?_
    rintro e w1 ⟨rfl, b1⟩
    have B1 := Lib.hid b1
    clear b1
    go_wp2
    go_ret
    rw [hE.out]
    exact ⟨rfl, B1.out⟩
  have hd4 : decide ((len : Int) < at_) = false := by simp; omega
  have w1 : IntKind.i64.wrap (2 * n) = 2 * n := IntWalk.i64_in _ (by omega)
  have w2 : IntKind.i64.wrap (at_ + 2 * n) = at_ + 2 * n := IntWalk.i64_in _ (by omega)
  have w3 : IntKind.i64.wrap (at_ + 2 * n + 2) = at_ + 2 * n + 2 := IntWalk.i64_in _ (by omega)
  obtain ⟨b, hb⟩ : ∃ b, b = decide ((len : Int) < at_ + 2 * n + 2) := ⟨_, rfl⟩
  have HE2 : Hid (rightV len at_ n = if b = true then 60 else 0) := by
    show _ = _
    rw [hE.out, hb]
    by_cases h5 : (len : Int) < at_ + 2 * n + 2
    · rw [if_pos (.inr (.inr h5)), decide_eq_true h5]; rfl
    · rw [if_neg (by omega), decide_eq_false h5]; rfl
  clear hE
  have hb' := hb.symm
  clear hb
  cases b
  · go_enter Tryz.func42, Tryz.ntmps42
    go_wp2_with fail
    refine (HL.out w HH.out).mono ?_
    rintro e w1 ⟨rfl, b1⟩
    have B1 := Lib.hid b1
    clear b1
    go_wp2_with fail
    refine (HL.out w1 (HH.out.kept B1.out)).mono ?_
    rintro e w2 ⟨rfl, b2⟩
    have B2 := Lib.hid (below_size B1.out b2)
    clear b2
    go_wp2
    go_ret
    rw [HE2.out]
    exact ⟨rfl, B2.out⟩
  · go_enter Tryz.func42, Tryz.ntmps42
    go_wp2_with fail
    refine (HL.out w HH.out).mono ?_
    rintro e w1 ⟨rfl, b1⟩
    have B1 := Lib.hid b1
    clear b1
    go_wp2_with fail
    refine (HL.out w1 (HH.out.kept B1.out)).mono ?_
    rintro e w2 ⟨rfl, b2⟩
    have B2 := Lib.hid (below_size B1.out b2)
    clear b2
    go_wp2
    go_ret
    rw [HE2.out]
    exact ⟨rfl, B2.out⟩
end
end Go.Proofs.YtpgbicbjlhkonaaGreatDoor
end
section
namespace Go.Proofs.YtpgbicbjlhkonaaGreatDoor
open Go.RowKit
set_option linter.unusedVariables false
set_option maxRecDepth 20000

set_option maxHeartbeats 2000000 in
theorem refSlot_any (w : World) (R : Nat → Prop) (g : Nat) (vs vp : Value) (ss : List (List UInt8 × Value)) (ps : List (Nat × List UInt8 × Value)) (a : Ab) (d : Dev) (h : DocIs w R g vs vp ss ps a) (hs : Sim d a) (hp : d.pend.length ≤ 1000000) (at_ n s : Nat) (hn : n ≤ 200) (hs1 : s ≤ 1) (hlen : at_ + 2 * n + 2 ≤ d.now.length) :
    Calls Tryz.prog 68 #[.pointer (some ⟨g, 0, none⟩), .int .i64 (at_ : Int), .int .i64 (n : Int), .int .i64 (s : Int)] w (RetOwn w 5 (slotB d.now (lowOf at_ n s) n)) := by
  have HH := Lib.hid h
  have hm := hs.ok.most
  have HRr : Hid (∀ (i : Int) w1, DocIs w1 R g vs vp ss ps a → Calls Tryz.prog 27 #[.pointer (some ⟨g, 0, none⟩), .int .i64 i] w1 fun e w' => ∃ v, e = .returned (.tuple #[v, .int .i64 (d.readE i)]) ∧ Bs w' v (d.readB i) ∧ Below w1.heap.size w1 w') := fun i w1 h => docRead_sim w1 R g vs vp ss ps a d h hs hp i
  have HE : Hid (slotB d.now (lowOf at_ n s) n = secsB d.now (lowOf at_ n s) (n + 1)) := by show _ = _; rfl
  have hall := hs.ok.now
  have hlo : lowOf at_ n s + (n + 1) ≤ d.now.length := by
    rcases s with _ | _ | s
    · rw [lowOf_0]; omega
    · rw [lowOf_1]; omega
    · omega
  have hsn : (s : Int) * ((n : Int) + 1) = ((s * (n + 1) : Nat) : Int) := by push_cast; rfl
  obtain ⟨q, hq⟩ : ∃ q, q = s * (n + 1) := ⟨_, rfl⟩
  have hlow : lowOf at_ n s = at_ + q := by rw [hq]; rfl
  rw [← hq] at hsn
  rw [hlow] at hlo HE ⊢
  rw [HE.out]
  clear h hs hq HE hlow
  go_enter Tryz.func68, Tryz.ntmps68
  go_wp2_with fail
  go_loopw [9, 10] (fun v u wr => ∃ k : Nat, k ≤ n + 1 ∧ u = .int .i64 (k : Int) ∧ Hid (OwnB wr w.heap.size 5 v (secsB d.now (at_ + q) k)) ∧ Hid (Below w.heap.size w wr)) (fun _ u _ => n + 1 - (intOf u).toNat)
  case atStart => exact ⟨0, by omega, rfl, OwnB.nil _ _ _, Below.refl _ _⟩
  case round =>
    obtain ⟨k, hk, rfl, HO, HB⟩ := hrel
    obtain ⟨vA, vm, hvA, hv1, hv2⟩ := HO.out.shape
    subst hvA
    unfold maxLen at hv2
    by_cases hlt : k ≤ n
    · have hd1 : decide ((k : Int) ≤ (n : Int)) = true := by simp; omega
      have w1 : IntKind.i64.wrap ((n : Int) + 1) = (n : Int) + 1 := IntWalk.i64_in _ (by omega)
      have w2 : IntKind.i64.wrap ((s : Int) * ((n : Int) + 1)) = (q : Int) := by rw [hsn]; exact IntWalk.i64_in _ (by omega)
      have w3 : IntKind.i64.wrap ((at_ : Int) + (q : Int)) = (at_ : Int) + (q : Int) := IntWalk.i64_in _ (by omega)
      have w4 : IntKind.i64.wrap ((at_ : Int) + (q : Int) + (k : Int)) = (at_ : Int) + (q : Int) + (k : Int) := IntWalk.i64_in _ (by omega)
      have w5 : IntKind.i64.wrap ((k : Int) + 1) = (k : Int) + 1 := IntWalk.i64_in _ (by omega)
      have HW1 := Lib.hid w1
      have hi2 : (at_ : Int) + (q : Int) + (k : Int) = ((at_ + q + k : Nat) : Int) := by push_cast; rfl
      have HS : Hid (d.readB ((at_ : Int) + (q : Int) + (k : Int)) = sec d.now (at_ + q + k)) := by
        show _ = _
        rw [hi2, Dev.readB_in (by omega)]
        unfold sec
        rw [List.getD_eq_getElem?_getD, List.getElem?_eq_getElem (by omega)]
        rfl
      have HSE : Hid (d.readE ((at_ : Int) + (q : Int) + (k : Int)) = 0) := by show _ = _; rw [hi2, Dev.readE_in (by omega)]
      have HLs : Hid ((secsB d.now (at_ + q) k).length = 256 * k) := secsB_length hall _ _ (by omega)
      have HL2 : Hid ((sec d.now (at_ + q + k)).length = 256) := sec_len hall (by omega)
      have HX : Hid (secsB d.now (at_ + q) (k + 1) = secsB d.now (at_ + q) k ++ sec d.now (at_ + q + k)) := by
        show _ = _
        rw [secsB_succ]
      clear hi2
      go_wp2_with fail
      refine (HRr.out _ wr (HH.out.kept HB.out)).mono ?_
      rintro e w6 ⟨u6, rfl, s6, b6⟩
      rw [HS.out] at s6
      rw [HSE.out]
      have S6 := Lib.hid s6
      have B6 := Lib.hid (below_size HB.out b6)
      have O6 := Lib.hid (HO.out.below b6)
      obtain ⟨uA, uc, huv⟩ := s6.shape2
      rw [HL2.out] at huv
      subst huv
      clear s6 b6 HO HB
      go_wp2_with (at_builtin; refine wpList_appB _ rfl (.tmp 31) (.tmp 32) 38 rfl w 5 Tryz.infoB Tryz.underlying38 _ _ _ _ rfl rfl O6.out S6.out (by rw [HLs.out, HL2.out]; omega) B6.out ?_; intro v7 w7 o7 b7; have O7 := Lib.hid o7; have B7 := Lib.hid b7; clear o7 b7 O6 B6)
      refine ⟨⟨k + 1, by omega, by congr 1, ?_, B7.out⟩, ?_⟩
      · show OwnB _ _ _ _ _
        rw [HX.out]
        exact O7.out
      · show n + 1 - ((k : Int) + 1).toNat < n + 1 - (k : Int).toNat
        omega
    · have hd1 : decide ((k : Int) ≤ (n : Int)) = false := by simp; omega
      obtain rfl : k = n + 1 := by omega
      go_wp2
      go_ret
      exact ⟨_, rfl, HO.out, HB.out⟩
end Go.Proofs.YtpgbicbjlhkonaaGreatDoor
end
section
namespace Go.Proofs.YtpgbicbjlhkonaaGreatDoor
open Go.RowKit
set_option linter.unusedVariables false
set_option maxRecDepth 20000

/-- The document's Out at r, without an error; its bytes lie behind base. -/
def RoOwn (w : World) (base r : Nat) (l : List UInt8) : Prop := ∃ v, RowAt w r 113 #[v, .int .i64 0] ∧ OwnB w base 5 v l
theorem RoOwn.kept {w w' : World} {base r : Nat} {l : List UInt8} (h : RoOwn w base r l) (hb : Below w.heap.size w w') : RoOwn w' base r l := by
  obtain ⟨v, h1, h2⟩ := h
  exact ⟨v, h1.kept hb, own_kept h2 hb⟩
theorem RoOwn.lt {w : World} {base r : Nat} {l : List UInt8} (h : RoOwn w base r l) : r < w.heap.size := by obtain ⟨v, h1, _⟩ := h; exact h1.lt
theorem RoOwn.bs {w w' : World} {base r : Nat} {l m : List UInt8} (h : RoOwn w base r l) {u : Value} (hb : Bs w u m) (hg : w.grownBy w' (some r)) : Bs w' u m := by
  obtain ⟨v, h1, h2⟩ := h
  exact hb.turn h1 (no_u8 h2.bs _) hg
set_option maxHeartbeats 1000000 in
theorem roAdd_own (w : World) (base r : Nat) (B : List UInt8) (u : Value) (b : List UInt8) (h : RoOwn w base r B) (hbase : base ≤ w.heap.size) (hu : Bs w u b) (hl : B.length + b.length ≤ 1000000000) :
    Calls Tryz.prog 72 #[.pointer (some ⟨r, 0, none⟩), .int .i64 0, u] w fun e w' => e = .returned (.tuple #[]) ∧ RoOwn w' base r (B ++ b) ∧ w.grownBy w' (some r) := by
  obtain ⟨v, hr, hO⟩ := h
  have hv := hO.bs
  have c0 : w.cell? ⟨r, 0, none⟩ = some v := hr.cell 0
  have c1 : w.cell? ⟨r, 1, none⟩ = some (.int .i64 0) := hr.cell 1
  have z1 : w.frozen? ⟨r, 1, none⟩ = false := hr.frozen 1
  have HR := Lib.hid hr
  have HV := Lib.hid hv
  have HU := Lib.hid hu
  obtain ⟨A, c, rfl, _, _, _⟩ := hv
  obtain ⟨A2, c2, rfl, _, _, _⟩ := hu
  have hrl := hr.lt
  clear hr hO
  obtain ⟨m, hm⟩ : ∃ m, m = B ++ b := ⟨_, rfl⟩
  have HM := Lib.hid hm
  rw [← hm]
  have AL := alloc_below w (.cells #[] 5)
  have HAL := Lib.hid AL
  have O1 : Hid (OwnB (w.alloc (.cells #[] 5)) w.heap.size 5 (.slice (some ⟨w.heap.size, 0, none⟩) 0 0) []) := World.ownsRow_lit (base := w.heap.size) (e := 5) (size := 1) w #[] 0 (Nat.le_refl _) (by simp [maxLen]) rfl
  clear hm AL
  go_enter Tryz.func72, Tryz.ntmps72
  go_wp2_with (first
    | (at_builtin; refine wpList_appB _ (o := ⟨some 23, _, _, _, _, _⟩) rfl (.tmp 18) (.tmp 22) 38 rfl w 5 Tryz.infoBy Tryz.underlying38 _ _ [] B rfl rfl O1.out (HV.out.below HAL.out) (by simp; omega) HAL.out ?_; intro v6 w6 own6 b6; have O6 : Hid (OwnB w6 w.heap.size 5 v6 B) := own6; have B6 := Lib.hid b6; obtain ⟨A6, c6, rfl, _, _⟩ := O6.out.shape; clear own6 b6)
    | (at_builtin; refine wpList_appB _ (o := ⟨some 25, _, _, _, _, _⟩) rfl (.tmp 23) (.tmp 24) 38 rfl w 5 Tryz.infoBy Tryz.underlying38 _ _ B b rfl rfl O6.out (HU.out.below B6.out) (by omega) B6.out ?_; intro v7 w7 own7 b7; have O7 : Hid (OwnB w7 w.heap.size 5 v7 m) := HM.out ▸ own7; have B7 := Lib.hid b7; have R7 := Lib.hid (HR.out.kept b7); have z0 := R7.out.frozen 0; have d0 : w7.cell? ⟨r, 0, none⟩ = some (.slice A B.length c) := R7.out.cell 0; obtain ⟨A7, c7, rfl, _, _⟩ := O7.out.shape; clear own7 b7))
  go_end0
  have hg := grown_setCell w7 r 0 (.slice A7 m.length c7)
  exact ⟨rfl, ⟨_, R7.out.fst _, World.ownsRow.mono ((turns_g hg).own O7.out fun k hk e => by
    obtain ⟨cur, hr⟩ := own_typed O7.out hk
    exact absurd (row_typed (e ▸ hr) R7.out) (by decide)) hbase⟩, (grown_any B7.out (some r)).trans hg⟩
set_option maxHeartbeats 1000000 in
theorem roNumber_own (w : World) (base r : Nat) (l : List UInt8) (n : Nat) (hn : n < 18446744073709551616) (h : RoOwn w base r l) (hbase : base ≤ w.heap.size) (hl : l.length ≤ 900000000) :
    Calls Tryz.prog 54 #[.pointer (some ⟨r, 0, none⟩), .int .u64 (n : Int), .int .i64 8] w fun e w' => e = .returned (.tuple #[]) ∧ RoOwn w' base r (l ++ highI n 8) ∧ w.grownBy w' (some r) := by
  have HH := Lib.hid h
  have HS := Lib.hid hbase
  clear hbase
  have HZ : Hid (∀ w, Calls Tryz.prog 70 #[.int .i64 8] w fun e w' => e = .returned (.bool true) ∧ w = w') := fun w => refSize_any w 8
  clear h
  obtain ⟨e1, e2, e3⟩ := highI_num n 8 rfl
  have HN : Hid (∀ w, Calls Tryz.prog 53 #[.int .u64 (n : Int), .int .i64 8] w (RetBs w (highI n 8))) := fun w => refHigh_any w n hn 8 (by omega)
  obtain ⟨hd, hhd⟩ : ∃ hd, hd = highI n 8 := ⟨_, rfl⟩
  rw [← hhd] at HN e1 e2 e3 ⊢
  have HP := Lib.hid (fun w u h hb hu => roAdd_own w base r l u hd h hb hu (by omega))
  obtain ⟨M, hM⟩ : ∃ M, M = ofHighB (hd.take 8) := ⟨_, rfl⟩
  have HO : Hid (∀ w v, Bs w v hd → Calls Tryz.prog 71 #[v] w fun e w' => e = .returned (.int .u64 (M : Int)) ∧ w = w') := fun w v h => by rw [hM]; exact refOfHigh_any w v hd h
  rw [← hM] at e2
  rw [Nat.mod_eq_of_lt (by exact hn)] at e2
  have hdq : decide ((M : Int) = (n : Int)) = true := by simp [e2]
  subst e2
  clear hM hhd e1
  go_enter Tryz.func54, Tryz.ntmps54
  go_wp2_with fail
  refine (HZ.out _).mono ?_
  intro e w1 hh
  obtain ⟨he, hw⟩ := hh
  subst he hw
  go_wp2_with fail
  refine (HN.out _).mono ?_
  intro e w1 hh
  obtain ⟨u1, he, hu1, b1⟩ := hh
  subst he
  have U1 := Lib.hid hu1
  have B1 := Lib.hid b1
  obtain ⟨A1, c1, rfl, _, _, _⟩ := hu1
  clear b1
  go_wp2_with fail
  refine (HO.out _ _ U1.out).mono ?_
  intro e w1' hh
  obtain ⟨he, hw⟩ := hh
  subst he hw
  go_wp2_with fail
  refine (HN.out _).mono ?_
  intro e w2 hh
  obtain ⟨u2, he, hu2, b2⟩ := hh
  subst he
  have U2 := Lib.hid hu2
  have B2 := Lib.hid (below_size B1.out b2)
  obtain ⟨A2, c2, rfl, _, _, _⟩ := hu2
  clear b2
  go_wp2_with fail
  refine (HP.out _ _ (HH.out.kept B2.out) (Nat.le_trans HS.out B2.out.size) U2.out).mono ?_
  intro e w3 hh
  obtain ⟨he, h3, g3⟩ := hh
  subst he
  have H3 := Lib.hid h3
  have G3 := Lib.hid g3
  clear h3 g3
  go_wp2
  go_end0
  exact ⟨rfl, H3.out, (grown_any B2.out (some r)).trans G3.out⟩
set_option maxHeartbeats 2000000 in
theorem roKeys_own (w : World) (base r : Nat) (l0 : List UInt8) (u : Value) (ls : List (List UInt8)) (h : RoOwn w base r l0) (hbase : base ≤ w.heap.size) (hu : Kl w u ls) (hl : l0.length ≤ 900000000) (hb : ls.length ≤ 100) :
    Calls Tryz.prog 55 #[.pointer (some ⟨r, 0, none⟩), u] w fun e w' => e = .returned (.tuple #[]) ∧ RoOwn w' base r (l0 ++ ((lowB ls.length 2).reverse ++ ls.flatten)) ∧ w.grownBy w' (some r) := by
  have HH := Lib.hid h
  have HS := Lib.hid hbase
  clear hbase
  obtain ⟨A, c, rfl, h1, h2, h4, h3⟩ := hu
  unfold maxLen at h2
  have H32 := Lib.hid h4
  clear h h4
  have hb2 : ¬ ((100 : Int) < (ls.length : Int)) := by omega
  have hw : IntKind.u64.wrap (ls.length : Int) = (ls.length : Int) := by rw [IntKind.wrap_u64]; omega
  have HN : Hid (∀ w, Calls Tryz.prog 53 #[.int .u64 (ls.length : Int), .int .i64 2] w fun e w' => ∃ v, e = .returned v ∧ OwnB w' w.heap.size 5 v (lowB ls.length 2).reverse ∧ Below w.heap.size w w') := fun w => by
    have h := refHigh_own w ls.length (by omega) 2 (by omega)
    rwa [highI_two] at h
  have LN : Hid ((lowB ls.length 2).reverse.length = 2) := high_length _ _
  obtain ⟨T, hT⟩ : ∃ T, T = l0 ++ ((lowB ls.length 2).reverse ++ ls.flatten) := ⟨_, rfl⟩
  rw [← hT]
  have E : Hid (T = l0 ++ ((lowB ls.length 2).reverse ++ ls.flatten)) := hT
  clear hT
  obtain ⟨hd, hhd⟩ : ∃ hd, hd = (lowB ls.length 2).reverse := ⟨_, rfl⟩
  rw [← hhd] at E HN LN
  have LT : Hid (∀ j, j ≤ ls.length → (hd ++ (ls.take j).flatten).length = 2 + j * 32) := fun j hj => by
    rw [List.length_append, LN.out, flat_len32 _ (fun l hl => H32.out l (List.mem_of_mem_take hl)), List.length_take_of_le hj]
  have HBY := Lib.hid (fun w l hl => refBytes_any w l hl)
  clear hhd
  go_enter Tryz.func55, Tryz.ntmps55
  go_wp2_with fail
  refine (HN.out _).mono ?_
  intro e w1 hh
  obtain ⟨u1, he, ho1, b1⟩ := hh
  subst he
  have O1 : Hid (OwnB w1 w.heap.size 5 u1 (hd ++ (ls.take 0).flatten)) := by show OwnB _ _ _ _ _; rw [List.take_zero, List.flatten_nil, List.append_nil]; exact ho1
  have B1 := Lib.hid b1
  obtain ⟨A1, c1, rfl, _, _⟩ := ho1.shape
  clear ho1 b1 HN
  go_wp2_with fail
  go_loopw [4, 5] (fun v i wr => ∃ j : Nat, j ≤ ls.length ∧ i = .int .i64 (j : Int) ∧ OwnB wr w.heap.size 5 v (hd ++ (ls.take j).flatten) ∧ Below w.heap.size w wr) (fun _ i _ => ls.length - (intOf i).toNat)
  case atStart => exact ⟨0, by omega, rfl, O1.out, B1.out⟩
  case round =>
    clear O1 B1
    obtain ⟨j, hj, rfl, hO, hB⟩ := hrel
    have HO := Lib.hid hO
    have HB := Lib.hid hB
    obtain ⟨VA, vc, hv4, _, _⟩ := hO.shape
    clear hO hB
    by_cases hlt : j < ls.length
    · have hlt2 : (j : Int) < (ls.length : Int) := by omega
      have hw1 : IntKind.i64.wrap ((j : Int) + 1) = (j : Int) + 1 := IntWalk.i64_in _ (by omega)
      have hq0 : ¬ ((j : Int) < 0) := by omega
      obtain ⟨l, hll⟩ : ∃ l, ls[j]? = some l := ⟨_, List.getElem?_eq_getElem hlt⟩
      have L32 : Hid (l.length = 32) := H32.out l (List.mem_of_getElem? hll)
      have HT : Hid (hd ++ (ls.take j).flatten ++ l = hd ++ (ls.take (j + 1)).flatten) := by
        show _ = _
        rw [List.take_add_one, hll, List.flatten_append, List.append_assoc]
        simp
      obtain ⟨b, off, rfl, hr⟩ := h3 (by omega)
      have HR : Hid (wr.rangeAt b (off + j * 32) (cellsB l)) := fun i u hu => by
        have h1 := hr j l hll i u hu
        exact (HB.out.cell (p := ⟨b, off + j * 32 + i, none⟩) (World.block_lt_of_cell? w _ h1)).trans h1
      have HLJ := Lib.hid (LT.out j (by omega))
      obtain ⟨pre, hpre⟩ : ∃ pre, pre = hd ++ (ls.take j).flatten := ⟨_, rfl⟩
      rw [← hpre] at HO HT HLJ hv4
      clear hr hll h3 LT hpre
      subst hv4
      go_wp2_with (with_reducible refine wpList_loadK (o := ⟨some 25, _, _, _, _, _⟩) rfl 117 (.tmp 24) rfl b (off + j * 32) (by with_unfolding_all rfl) l (.array 32 5) (by with_unfolding_all exact HR.out) Tryz.underlying117 rfl (Tryz.sizeKeyM l L32.out) ?_)
      refine (HBY.out wr l L32.out).mono ?_
      intro e w2 hh
      obtain ⟨u2, he, hu2, b2⟩ := hh
      subst he
      have U2 := Lib.hid hu2
      have O2 := Lib.hid (HO.out.below b2)
      have B2 := Lib.hid (HB.out.trans (b2.mono HB.out.size))
      obtain ⟨A2, c2, rfl, _, _, _⟩ := hu2
      clear b2 HO HB HR HBY
      go_wp2_with (at_builtin; refine wpList_appB _ (o := ⟨some 27, _, _, _, _, _⟩) rfl (.tmp 21) (.tmp 26) 38 rfl w 5 Tryz.infoBy Tryz.underlying38 _ _ pre l rfl rfl O2.out U2.out (by have := HLJ.out; have := L32.out; omega) B2.out ?_; intro v7 w7 own7 b7; have O7 : Hid (OwnB w7 w.heap.size 5 v7 (hd ++ (ls.take (j + 1)).flatten)) := HT.out ▸ own7; have B7 := Lib.hid b7; clear own7 b7)
      go_roundw
      case rel => exact ⟨j + 1, by omega, by go_num, O7.out, B7.out⟩
      case measure => simp [intOf]; omega
    · have hj2 : j = ls.length := by omega
      subst hj2
      have HLJ := LT.out ls.length (by omega)
      rw [List.take_length] at HO HLJ hv4
      obtain ⟨m, hm⟩ : ∃ m, m = hd ++ ls.flatten := ⟨_, rfl⟩
      rw [← hm] at HO HLJ hv4 E
      have HP := Lib.hid (fun w u h hb hu => roAdd_own w base r l0 u m h hb hu (by omega))
      clear hm HLJ LT
      subst hv4
      go_wp2_with fail
      refine (HP.out _ _ (HH.out.kept HB.out) (Nat.le_trans HS.out HB.out.size) HO.out.bs).mono ?_
      intro e w3 hh
      obtain ⟨he, h3, g3⟩ := hh
      subst he
      have H3 := Lib.hid h3
      have G3 := Lib.hid g3
      clear h3 g3
      go_wp2
      go_end0
      exact ⟨rfl, by rw [E.out]; exact H3.out, (grown_any HB.out (some r)).trans G3.out⟩

end Go.Proofs.YtpgbicbjlhkonaaGreatDoor
end
