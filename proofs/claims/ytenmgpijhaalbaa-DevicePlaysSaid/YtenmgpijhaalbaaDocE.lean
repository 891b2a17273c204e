/-
  Contracts of the document's Sync, Crash, Read and Copy. Conditions: as each theorem names them.
-/
import Derived.Test.YtenmgpijhaalbaaDocD
namespace Go.Proofs.Ytenmgpijhaalbaa
open Go.RowKit
set_option linter.unusedVariables false
set_option maxRecDepth 20000

theorem Wide.from {R : Nat → Prop} {w w1 w2 : World} (h : w.heap.size ≤ w1.heap.size) {k : Nat} (hk : Wide R w1 w2 k) : Wide R w w2 k := hk.imp id fun h2 => ⟨Nat.le_trans h h2.1, h2.2⟩
theorem DocIn.widen {w : World} {R R' : Nat → Prop} {g : Nat} {a : Ab} (h : DocIn w R g a) (hR : ∀ k, R k → R' k) (hg : ¬ R' g) : DocIn w R' g a := by
  obtain ⟨vs, vp, ss, ps, h⟩ := h
  exact ⟨vs, vp, ss, ps, h.widen hR hg⟩
theorem Try.builtDoc (u v : Value) (hu : ∃ A n c, u = .slice A n c) (hv : ∃ A n c, v = .slice A n c) (f : Bool) (l : Int) (b : Bool) : Try.prog.built 63 [(0, u), (1, v), (2, .bool f), (3, .int .i64 l), (4, .bool b)] = some #[u, v, .bool f, .int .i64 l, .bool b] := by
  obtain ⟨A, n, c, rfl⟩ := hu
  obtain ⟨A2, n2, c2, rfl⟩ := hv
  kernel_rfl
section
variable (w : World) (R : Nat → Prop) (g : Nat) (vs vp : Value) (ss : List (List UInt8 × Value)) (ps : List (Nat × List UInt8 × Value)) (a : Ab)
set_option maxHeartbeats 1000000 in
theorem docSync_any (h : DocIs w R g vs vp ss ps a) (hp : ps.length ≤ 1000000) (hs : ss.length ≤ 1000000) (hpi : ∀ x ∈ ps, x.1 < ss.length)
    (hl : -9223372036854775808 ≤ a.left ∧ a.left ≤ 9223372036854775807) (hf : a.goes = true → a.fused = true → 0 ≤ a.left) :
    Calls Try.prog 14 #[.pointer (some ⟨g, 0, none⟩)] w (DocRet w R g a.sync (.int .i64 a.syncE)) := by
  have H2 : Hid (∀ w, DocIs w R g vs vp ss ps a → Calls Try.prog 32 #[.pointer (some ⟨g, 0, none⟩)] w fun e w' => e = .returned (.bool a.goes) ∧ DocIs w' R g vs vp ss ps a.spend ∧ w.grownBy w' (some g)) := fun w h => docDone_any w R g vs vp ss ps a h hl hf
  have H3 : Hid (∀ w, DocIs w R g vs vp ss ps a.spend → Calls Try.prog 33 #[.pointer (some ⟨g, 0, none⟩), .bool true, .slice none 0 0] w (DocRet w R g (a.spend.kept fun k => true || [].getD k false) (.tuple #[]))) := fun w h => docKeep_any w R g vs vp ss ps a.spend h true _ [] (Bls.nil w) hp hs hpi
  have HH := Lib.hid h
  clear h
  by_cases hg : a.goes = true
  · have e1 : Hid (a.syncE = 0) := by show _ = _; unfold Ab.syncE; rw [if_pos hg]
    have e2 : Hid (a.sync = a.spend.kept fun k => true || [].getD k false) := by
      show _ = _
      unfold Ab.sync
      rw [if_pos hg]
      simp only [Bool.true_or]
      rfl
    rw [hg] at H2
    go_enter Try.func14, Try.ntmps14
    go_wp2_with fail
    refine (H2.out w HH.out).mono ?_
    rintro e w1 ⟨rfl, h1, g1⟩
    have D1 := Lib.hid h1
    have G1 := Lib.hid g1
    clear h1 g1
    go_wp2_with fail
    refine (H3.out w1 D1.out).mono ?_
    rintro e w2 ⟨rfl, h2, t2⟩
    have D2 := Lib.hid h2
    have T2 := Lib.hid t2
    clear h2 t2
    go_wp2
    go_ret
    rw [e1.out, e2.out]
    exact ⟨rfl, D2.out.widen (fun k hk => hk.from G1.out.size) (wide_free HH.out.free HH.out.row.lt), (turns_g G1.out).same T2.out⟩
  · simp only [Bool.not_eq_true] at hg
    have e1 : Hid (a.syncE = 61) := by show _ = _; unfold Ab.syncE; rw [hg]; rfl
    have e2 : Hid (a.sync = a.spend) := by show _ = _; unfold Ab.sync; rw [hg]; rfl
    rw [hg] at H2
    go_enter Try.func14, Try.ntmps14
    go_wp2_with fail
    refine (H2.out w HH.out).mono ?_
    rintro e w1 ⟨rfl, h1, g1⟩
    have D1 := Lib.hid h1
    have G1 := Lib.hid g1
    clear h1 g1
    go_wp2
    go_ret
    rw [e1.out, e2.out]
    exact D1.out.ret HH.out.row.lt (turns_g G1.out)
set_option maxHeartbeats 1000000 in
theorem docCrash_any (h : DocIs w R g vs vp ss ps a) (vk : Value) (keep : List Bool) (hk : Bls w vk keep) (hp : ps.length ≤ 1000000) (hs : ss.length ≤ 1000000) (hpi : ∀ x ∈ ps, x.1 < ss.length) :
    Calls Try.prog 16 #[.pointer (some ⟨g, 0, none⟩), vk] w (DocRet w R g (a.crash keep) (.tuple #[])) := by
  have H3 : Hid (Calls Try.prog 33 #[.pointer (some ⟨g, 0, none⟩), .bool false, vk] w (DocRet w R g (a.kept fun k => false || keep.getD k false) (.tuple #[]))) := docKeep_any w R g vs vp ss ps a h false _ keep hk hp hs hpi
  have HH := Lib.hid h
  clear h hk
  go_enter Try.func16, Try.ntmps16
  go_wp2_with fail
  refine H3.out.mono ?_
  rintro e w2 ⟨rfl, ⟨vs2, vp2, ss2, ps2, h2⟩, t2⟩
  have D2 := Lib.hid h2
  have T2 := Lib.hid t2
  have c2 : w2.cell? ⟨g, 2, none⟩ = some (.bool a.fused) := h2.cell 2 _ rfl
  have c4 : w2.cell? ⟨g, 4, none⟩ = some (.bool a.gone) := h2.cell 4 _ rfl
  have z2 := h2.row.frozen 2
  have z4 := h2.row.frozen 4
  clear h2 t2 H3
  go_wp2
  go_end0
  have gg := (grown_setCell w2 g 2 (.bool false)).trans (grown_setCell _ g 4 (.bool false))
  have hsz : ((w2.setCell ⟨g, 2, none⟩ (.bool false)).setCell ⟨g, 4, none⟩ (.bool false)).heap.size = w2.heap.size := by simp
  have D3 := D2.out.rowed gg (a' := a.crash keep) ((D2.out.row.put 2 _).put 4 _) (by simp only [Bool.false_or]; rfl) rfl
  exact ⟨rfl, ⟨_, _, _, _, D3.widen (fun k hk => hk.imp id fun h => ⟨h.1, by rw [hsz]; exact h.2⟩) (wide_free HH.out.free HH.out.row.lt)⟩, T2.out.same (turns_g gg)⟩
set_option maxHeartbeats 1000000 in
theorem docRead_none (h : DocIs w R g vs vp ss ps a) (i : Int) (hi : i < 0 ∨ (a.sure.length : Int) ≤ i) :
    Calls Try.prog 39 #[.pointer (some ⟨g, 0, none⟩), .int .i64 i] w (RetV w (.tuple #[.slice none 0 0, .int .i64 60])) := by
  obtain ⟨sA, sc, hvs, _⟩ := h.sure.shape
  have c0 := h.cell 0 _ rfl
  rw [hvs, ← h.lenS] at c0
  clear hvs h
  by_cases h0 : i < 0
  · have hd : decide (i < 0) = true := decide_eq_true h0
    go_enter Try.func39, Try.ntmps39
    go_wp2
    go_ret2
    exact ⟨rfl, Below.refl _ _⟩
  · have hd : decide (i < 0) = false := decide_eq_false h0
    have hd1 : decide ((a.sure.length : Int) ≤ i) = true := by simp; omega
    go_enter Try.func39, Try.ntmps39
    go_wp2
    go_ret2
    exact ⟨rfl, Below.refl _ _⟩
set_option maxHeartbeats 2000000 in
theorem docRead_any (h : DocIs w R g vs vp ss ps a) (i : Nat) (hi : i < ss.length) (hp : ps.length ≤ 1000000) (hs : ss.length ≤ 1000000) :
    Calls Try.prog 39 #[.pointer (some ⟨g, 0, none⟩), .int .i64 (i : Int)] w fun e w' => ∃ v l, e = .returned (.tuple #[v, .int .i64 0]) ∧ Bs w' v l ∧ a.all[i]? = some l ∧ Below w.heap.size w w' := by
  have HH := Lib.hid h
  obtain ⟨sA, sc, hvs, _⟩ := h.sure.shape
  obtain ⟨pA, pc, hvp, _⟩ := h.pend.shape
  have c0 := h.cell 0 _ rfl
  have c1 := h.cell 1 _ rfl
  rw [hvs] at c0
  rw [hvp] at c1
  have hrs := h.sure
  have hrp := h.pend
  rw [hvs] at hrs
  rw [hvp] at hrp
  obtain ⟨sb, so, rfl, _, hrng⟩ := hrs.at_ (by omega)
  have HRS := Lib.hid hrng
  have HRP := Lib.hid hrp
  have HPl : Hid (a.pend.length = ps.length) := h.lenP
  have HSl : Hid (a.sure.length = ss.length) := h.lenS
  clear hrs hrp hvs hvp h hrng
  have hd : decide ((i : Int) < 0) = false := by simp
  have hd1 : decide ((ss.length : Int) ≤ (i : Int)) = false := by simp; omega
  have hw1 : IntKind.i64.wrap ((ps.length : Int) - 1) = (ps.length : Int) - 1 := IntWalk.i64_in _ (by omega)
  go_enter Try.func39, Try.ntmps39
  go_wp2_with fail
  go_loopw [6] (fun u wr => ∃ z : Nat, z ≤ ps.length ∧ u = .int .i64 ((z : Int) - 1) ∧ wr = w ∧ Hid (∀ j y, z ≤ j → ps[j]? = some y → y.1 ≠ i)) (fun u _ => (intOf u + 1).toNat)
  case atStart => exact ⟨ps.length, by omega, rfl, rfl, fun j y h1 h2 => by
    have := (List.getElem?_eq_some_iff.1 h2).1
    omega⟩
  case round =>
    obtain ⟨z, hz, rfl, rfl, HN⟩ := hrel
    rcases z with _ | m
    · have hm1 : decide ((0 : Int) ≤ ((0 : Nat) : Int) - 1) = false := by simp
      have hcs := HRS.out i (ss[i]'hi).2 (by rw [List.getElem?_map, List.getElem?_eq_getElem hi]; rfl)
      have hu := HH.out.each _ (List.getElem_mem hi)
      have HA : Hid (a.all[i]? = some (ss[i]'hi).1) := by
        show _ = _
        unfold Ab.all
        rw [doneTo_never _ _ _ _ (Nat.le_refl _), HH.out.isS, List.getElem?_map, List.getElem?_eq_getElem hi]
        · rfl
        · intro j y hj hy
          rw [HH.out.isP, List.getElem?_map] at hy
          obtain ⟨y2, hy2, rfl⟩ := Option.map_eq_some_iff.1 hy
          exact HN.out j y2 (Nat.zero_le _) hy2
      generalize ss[i]'hi = x at hcs hu HA
      obtain ⟨l, u⟩ := x
      have HU := Lib.hid hu.1
      obtain ⟨uA, uc, huv⟩ := hu.1.shape2
      obtain ⟨un, hun⟩ : ∃ un, un = l.length := ⟨_, rfl⟩
      simp only at huv hcs
      rw [← hun] at huv
      clear hun
      subst huv
      have hi2 : (i : Int) < (ss.length : Int) := by omega
      clear hu
      go_wp2_with fail
      go_ret2
      exact ⟨_, rfl, l, HU.out, HA.out, Below.refl _ _⟩
    · have hz1 : (((m + 1 : Nat)) : Int) - 1 = (m : Int) := by omega
      rw [hz1]
      have hm0 : decide ((0 : Int) ≤ (m : Int)) = true := by simp
      obtain ⟨x, hx⟩ : ∃ x, ps[m]? = some x := ⟨_, List.getElem?_eq_getElem (by omega)⟩
      obtain ⟨pb, po, rfl, _, hrng⟩ := HRP.out.at_ (by omega)
      have hg2 := pC_get hx
      have ca := hrng (m * 2) _ hg2.1
      have cu := hrng (m * 2 + 1) _ hg2.2
      rw [← Nat.add_assoc] at cu
      have hu := HH.out.every _ (List.mem_of_getElem? hx)
      have HX := Lib.hid hx
      obtain ⟨at_, l, u⟩ := x
      have HU := Lib.hid hu.1
      obtain ⟨uA, uc, huv⟩ := hu.1.shape2
      obtain ⟨un, hun⟩ : ∃ un, un = l.length := ⟨_, rfl⟩
      simp only at huv ca cu
      rw [← hun] at huv
      clear hun
      subst huv
      have hm2 : (m : Int) < (ps.length : Int) := by omega
      have hwm : IntKind.i64.wrap ((m : Int) - 1) = (m : Int) - 1 := IntWalk.i64_in _ (by omega)
      clear hu hx hg2 hrng
      by_cases hai : at_ = i
      · have hdd : decide ((at_ : Int) = (i : Int)) = true := by simp; omega
        have HA : Hid (a.all[i]? = some l) := by
          show _ = _
          unfold Ab.all
          rw [HPl.out]
          refine doneTo_last a.pend a.sure i m ps.length (at_, l) (by rw [HSl.out]; exact hi) (by rw [HH.out.isP, List.getElem?_map, HX.out]; rfl) hai (by omega) (by rw [HPl.out]; exact Nat.le_refl _) fun j y h1 h2 h3 => ?_
          rw [HH.out.isP, List.getElem?_map] at h3
          obtain ⟨y2, hy2, rfl⟩ := Option.map_eq_some_iff.1 h3
          exact HN.out j y2 h1 hy2
        go_wp2_with fail
        go_ret2
        exact ⟨_, rfl, l, HU.out, HA.out, Below.refl _ _⟩
      · have hdd : decide ((at_ : Int) = (i : Int)) = false := by simp; omega
        go_wp2_with fail
        refine ⟨⟨m, by omega, rfl, trivial, fun j y h1 h2 => ?_⟩, ?_⟩
        · by_cases hjm : j = m
          · subst hjm
            rw [HX.out] at h2
            rw [← Option.some.inj h2]
            exact hai
          · exact HN.out j y (by omega) h2
        · show ((m : Int) - 1 + 1).toNat < ((m : Int) + 1).toNat
          omega
set_option maxHeartbeats 1000000 in
theorem docCopy_any (h : DocIs w R g vs vp ss ps a) (hlow : ∀ k, R k → k < w.heap.size) :
    Calls Try.prog 20 #[.pointer (some ⟨g, 0, none⟩)] w fun e w' => e = .returned (.pointer (some ⟨w.heap.size, 0, none⟩)) ∧ DocIs w' R w.heap.size vs vp ss ps a ∧ Below w.heap.size w w' ∧ w.heap.size < w'.heap.size := by
  have HH := Lib.hid h
  have c0 := h.cell 0 _ rfl
  have c1 := h.cell 1 _ rfl
  have c2 := h.cell 2 _ rfl
  have c3 := h.cell 3 _ rfl
  have c4 := h.cell 4 _ rfl
  clear h
  go_enter Try.func20, Try.ntmps20
  go_wp2_with fail
  obtain ⟨A1, n1, q1, hv1⟩ : ∃ A n c, vs = .slice A n c := by
    obtain ⟨A, c, h, _⟩ := HH.out.sure.shape
    exact ⟨_, _, _, h⟩
  obtain ⟨A2, n2, q2, hv2⟩ : ∃ A n c, vp = .slice A n c := by
    obtain ⟨A, c, h, _⟩ := HH.out.pend.shape
    exact ⟨_, _, _, h⟩
  have hbt := Try.builtDoc vs vp ⟨_, _, _, hv1⟩ ⟨_, _, _, hv2⟩ a.fused a.left a.gone
  clear hv1 hv2
  go_still_tail 21, (by kernel_rfl)
  refine wpStill_val (o := ⟨some 23, _, _, _, _, _⟩) rfl (by exact run_builtOp 63 #[(0, .tmp 6), (1, .tmp 10), (2, .tmp 14), (3, .tmp 18), (4, .tmp 22)] rfl #[vs, vp, .bool a.fused, .int .i64 a.left, .bool a.gone] (by with_unfolding_all exact hbt)) ?_
  simp only [Act.put, List.setIfInBounds_toArray, List.set_cons_zero, List.set_cons_succ]
  refine wpStill_nil ?_
  change wpList _ _ _ _ _ w.drew
  go_wp2_with ((with_reducible refine wpList_box_row (o := ⟨some 24, _, _, _, _, _⟩) rfl 63 (.tmp 23) rfl #[vs, vp, .bool a.fused, .int .i64 a.left, .bool a.gone] (by with_unfolding_all rfl) ?_); intro g2 w3 n3; have N3 := Lib.hid n3; clear n3)
  go_ret
  have hsp : g2 = w.heap.size := N3.out.spot
  subst hsp
  have hb : Below w.heap.size w w3 := (below_size (Below.refl _ w).drew N3.out.below)
  have D := HH.out.kept hb
  exact ⟨rfl, ⟨N3.out.row, fun e => by have := hlow _ e; omega, D.sure, D.pend, D.each, D.every, D.isS, D.isP⟩, hb, N3.out.row.lt⟩
end
end Go.Proofs.Ytenmgpijhaalbaa
