/-
  Contracts of the document's keep, Sync and Crash. Conditions: as each theorem names them.
-/
import Derived.Test.YtenmgpijhaalbaaDocC
namespace Go.Proofs.Ytenmgpijhaalbaa
open Go.RowKit
set_option linter.unusedVariables false
set_option maxRecDepth 20000

def Ab.kept (a : Ab) (f : Nat → Bool) : Ab := { a with sure := doneTo f a.pend a.sure a.pend.length, pend := [] }
theorem Row_.at_ {w : World} {R : Nat → Prop} {A : Option Addr} {n m c : Nat} {cs : List Value} (h : Row_ w R (.slice A n c) m cs) (hm : 0 < m) : ∃ b off, A = some ⟨b, off, none⟩ ∧ R b ∧ w.rangeAt b off cs := by
  obtain ⟨A', c', hv, _, _, h3⟩ := h
  injection hv with e1 _ _
  obtain ⟨b, off, hA, hR, hc⟩ := h3 hm
  exact ⟨b, off, e1.trans hA, hR, hc⟩

set_option maxHeartbeats 4000000 in
theorem docKeep_any (w : World) (R : Nat → Prop) (g : Nat) (vs vp : Value) (ss : List (List UInt8 × Value)) (ps : List (Nat × List UInt8 × Value)) (a : Ab) (h : DocIs w R g vs vp ss ps a) (all : Bool) (vk : Value) (keep : List Bool) (hk : Bls w vk keep) (hp : ps.length ≤ 1000000) (hs : ss.length ≤ 1000000) (hpi : ∀ x ∈ ps, x.1 < ss.length) :
    Calls Try.prog 33 #[.pointer (some ⟨g, 0, none⟩), .bool all, vk] w (DocRet w R g (a.kept fun k => all || keep.getD k false) (.tuple #[])) := by
  have HH := Lib.hid h
  have HK := Lib.hid hk
  obtain ⟨kA, kc, rfl, k1, k2, _⟩ := hk
  obtain ⟨pA, pc, hvp, _⟩ := h.pend.shape
  have HV := Lib.hid hvp
  clear hvp
  have c0 := h.cell 0 _ rfl
  have c0' := (new_below w (.cells #[] 31)).cell (p := ⟨g, 0, none⟩) h.row.lt
  rw [c0] at c0'
  have E : Hid ((w.alloc (.cells #[] 31)).ownsRow w.heap.size 31 1 (.slice (some ⟨w.heap.size, 0, none⟩) 0 0) 0 []) := World.ownsRow_lit (base := w.heap.size) (e := 31) (size := 1) w #[] 0 (Nat.le_refl _) (by simp [maxLen]) rfl
  have NB := Lib.hid (new_below w (.cells #[] 31))
  have SO : Hid (∀ u ∈ ss.map (·.2), u.oneCell' = true) := fun u hu => by
    obtain ⟨x, hx, rfl⟩ := List.mem_map.1 hu
    exact (HH.out.each x hx).1.oneCell
  have hkm : keep.length ≤ maxLen := Nat.le_trans k1 k2
  unfold maxLen at hkm
  clear h c0
  go_enter Try.func33, Try.ntmps33
  go_wp2_with (first
    | ((with_reducible refine wpList_appRow (o := ⟨some 13, _, _, _, _, _⟩) rfl (.tmp 8) (.tmp 12) 60 rfl w.heap.size 31 (.slice none 0 0) 1 24 Try.underlying60 Try.infoSl (by decide) (by decide) (.slice (some ⟨w.heap.size, 0, none⟩) 0 0) 0 [] (by with_unfolding_all rfl) E.out vs ss.length (ss.map (·.2)) (by with_unfolding_all rfl) (by with_unfolding_all exact (HH.out.kept NB.out).sure) (by rw [List.length_map, Nat.mul_one]) SO.out (by unfold maxLen; omega) (by omega) NB.out.size ?_); intro v3 w3 o3 g3 at3))
  have B3 := Lib.hid (grown_new NB.out g3)
  have O3 : Hid (w3.ownsRow w.heap.size 31 1 v3 ss.length (ss.map (·.2))) := by
    have := o3
    rw [Nat.zero_add, List.nil_append] at this
    exact this
  clear o3 g3 at3 E NB c0' SO
  go_loopw [7] (fun u wr => ∃ (k : Nat) (sk : List (List UInt8 × Value)), k ≤ ps.length ∧ u = .int .i64 (k : Int) ∧ Hid (wr.ownsRow w.heap.size 31 1 v3 ss.length (sk.map (·.2))) ∧ Hid (sk.map (·.1) = doneTo (fun k => all || keep.getD k false) a.pend a.sure k) ∧ Hid (∀ x ∈ sk, InR w R x.2 x.1) ∧ Hid (Below w.heap.size w wr)) (fun u _ => ps.length - (intOf u).toNat)
  case atStart => exact ⟨0, ss, by omega, rfl, O3.out, HH.out.isS.symm, HH.out.each, B3.out⟩
  case round =>
    obtain ⟨k, sk, hkl, rfl, HO, HS, HE, HB⟩ := hrel
    clear O3 B3
    have hg0 := HH.out.row.lt
    have c1 : wr.cell? ⟨g, 1, none⟩ = some vp := (HB.out.cell (p := ⟨g, 1, none⟩) hg0).trans (HH.out.cell 1 _ rfl)
    rw [HV.out] at c1
    by_cases hlt : k < ps.length
    · have hd1 : decide ((k : Int) < (ps.length : Int)) = true := by simp; omega
      obtain ⟨x, hx⟩ : ∃ x, ps[k]? = some x := ⟨_, List.getElem?_eq_getElem hlt⟩
      obtain ⟨at_, b, u⟩ := x
      have hat : at_ < ss.length := hpi _ (List.mem_of_getElem? hx)
      have HU : Hid (InR w R u b) := HH.out.every _ (List.mem_of_getElem? hx)
      have HX : Hid (a.pend[k]? = some (at_, b)) := by show _ = _; rw [HH.out.isP, List.getElem?_map, hx]; rfl
      have hpr := HH.out.pend
      rw [HV.out] at hpr
      obtain ⟨pb, po, rfl, _, hrng⟩ := hpr.at_ (by omega)
      have hg2 := pC_get hx
      have ca0 := hrng (k * 2) _ hg2.1
      have cu0 := hrng (k * 2 + 1) _ hg2.2
      have ca := (HB.out.cell (p := ⟨pb, po + k * 2, none⟩) (World.block_lt_of_cell? w _ ca0)).trans ca0
      have cu := (HB.out.cell (p := ⟨pb, po + (k * 2 + 1), none⟩) (World.block_lt_of_cell? w _ cu0)).trans cu0
      rw [← Nat.add_assoc] at cu
      obtain ⟨gn, cn, rfl, hgn, _⟩ := own_some2 HO.out (by omega)
      have HG := Lib.hid hgn
      obtain ⟨uA, uc, hu⟩ := HU.out.1.shape2
      obtain ⟨un, hun⟩ : ∃ un, un = b.length := ⟨_, rfl⟩
      rw [← hun] at hu
      clear hun
      subst hu
      have hlk : (sk.map (·.2)).length = ss.length := by have := HO.out.1; omega
      obtain ⟨old, hold⟩ : ∃ old, (sk.map (·.2))[at_]? = some old := ⟨_, List.getElem?_eq_getElem (by omega)⟩
      have CO : Hid (wr.cell? ⟨gn, at_, none⟩ = some old) := (HO.out.cellAt at_ (by omega)).trans hold
      have ZO : Hid (wr.frozen? ⟨gn, at_, none⟩ = false) := by
        obtain ⟨cur, hr, _⟩ := own_at HO.out
        exact hr.frozen at_
      have ES0 : doneTo (fun k => all || keep.getD k false) a.pend a.sure (k + 1) = if (all || keep.getD k false) then (doneTo (fun k => all || keep.getD k false) a.pend a.sure k).set at_ b else doneTo (fun k => all || keep.getD k false) a.pend a.sure k := doneTo_step _ _ _ k _ HX.out
      have hlt2 : (k : Int) < (ps.length : Int) := by omega
      have hat2 : (at_ : Int) < (ss.length : Int) := by omega
      clear hpr hrng hg2 ca0 cu0 hold hx HX hgn
      rcases all with _ | _
      · by_cases hkk : k < keep.length
        · obtain ⟨kb, ko, rfl, hc⟩ := HK.out.at_ k hkk
          have CK := (HB.out.cell (p := ⟨kb, ko + k, none⟩) (World.block_lt_of_cell? w _ hc)).trans hc
          have hgd : keep.getD k false = keep[k] := by rw [List.getD_eq_getElem?_getD, List.getElem?_eq_getElem hkk]; rfl
          rw [hgd, Bool.false_or] at ES0
          have hkk2 : (k : Int) < (keep.length : Int) := by omega
          clear hc hgd
          generalize keep[k] = y at CK ES0
          rcases y with _ | _
          · rw [if_neg (by decide)] at ES0
            have ES := Lib.hid ES0
            clear ES0
            go_wp2_with fail
            refine ⟨⟨k + 1, sk, by omega, by congr 1, HO, ?_, HE, HB⟩, ?_⟩
            · rw [ES.out]; exact HS
            · show ps.length - ((k : Int) + 1).toNat < ps.length - (k : Int).toNat
              omega
          · rw [if_pos rfl] at ES0
            have ES := Lib.hid ES0
            clear ES0
            go_wp2_with fail
            go_still_tail 18, (by kernel_rfl)
            change wpList _ _ _ _ _ wr.drew
            clear c1 ca cu CK
            have co : wr.drew.cell? ⟨gn, at_, none⟩ = some old := CO.out
            have zo : wr.drew.frozen? ⟨gn, at_, none⟩ = false := ZO.out
            go_wp2_with fail
            have hst := World.ownsRow.stored (own_kept HO.out (Below.refl _ wr).drew) at_ (.slice uA un uc)
            refine ⟨⟨k + 1, sk.set at_ (b, .slice uA un uc), by omega, by congr 1, ?_, ?_, ?_, ?_⟩, ?_⟩
            · show World.ownsRow _ _ _ _ _ _ _
              rw [List.map_set]; exact hst.1
            · rw [ES.out, ← HS.out, List.map_set]; rfl
            · intro y hy
              rcases List.mem_or_eq_of_mem_set hy with hy | rfl
              · exact HE.out y hy
              · exact HU.out
            · exact (HB.out.drew).setCell (Nat.le_trans (Nat.le_refl _) HG.out) _
            · show ps.length - ((k : Int) + 1).toNat < ps.length - (k : Int).toNat
              omega
        · have hkk2 : decide ((k : Int) < (keep.length : Int)) = false := by simp; omega
          have hgd : keep.getD k false = false := by rw [List.getD_eq_getElem?_getD, List.getElem?_eq_none (by omega)]; rfl
          rw [hgd, Bool.false_or, if_neg (by decide)] at ES0
          have ES := Lib.hid ES0
          clear ES0 hgd
          go_wp2_with fail
          refine ⟨⟨k + 1, sk, by omega, by congr 1, HO, ?_, HE, HB⟩, ?_⟩
          · rw [ES.out]; exact HS
          · show ps.length - ((k : Int) + 1).toNat < ps.length - (k : Int).toNat
            omega
      · rw [Bool.true_or, if_pos rfl] at ES0
        have ES := Lib.hid ES0
        have CK : True := trivial
        clear ES0
        go_wp2_with fail
        go_still_tail 18, (by kernel_rfl)
        change wpList _ _ _ _ _ wr.drew
        clear c1 ca cu CK
        have co : wr.drew.cell? ⟨gn, at_, none⟩ = some old := CO.out
        have zo : wr.drew.frozen? ⟨gn, at_, none⟩ = false := ZO.out
        go_wp2_with fail
        have hst := World.ownsRow.stored (own_kept HO.out (Below.refl _ wr).drew) at_ (.slice uA un uc)
        refine ⟨⟨k + 1, sk.set at_ (b, .slice uA un uc), by omega, by congr 1, ?_, ?_, ?_, ?_⟩, ?_⟩
        · show World.ownsRow _ _ _ _ _ _ _
          rw [List.map_set]; exact hst.1
        · rw [ES.out, ← HS.out, List.map_set]; rfl
        · intro y hy
          rcases List.mem_or_eq_of_mem_set hy with hy | rfl
          · exact HE.out y hy
          · exact HU.out
        · exact (HB.out.drew).setCell (Nat.le_trans (Nat.le_refl _) HG.out) _
        · show ps.length - ((k : Int) + 1).toNat < ps.length - (k : Int).toNat
          omega
    · have hk2 : k = ps.length := by omega
      subst hk2
      have hd1 : decide ((ps.length : Int) < (ps.length : Int)) = false := by simp
      have c0 : wr.cell? ⟨g, 0, none⟩ = some vs := (HB.out.cell (p := ⟨g, 0, none⟩) hg0).trans (HH.out.cell 0 _ rfl)
      have HR : Hid (RowAt wr g 63 #[vs, vp, .bool a.fused, .int .i64 a.left, .bool a.gone]) := HH.out.row.kept HB.out
      have z0 := HR.out.frozen 0
      have z1 := HR.out.frozen 1
      obtain ⟨A8, m8, c8, rfl⟩ : ∃ A m c, v3 = .slice A m c := own_shape3 HO.out
      go_wp2_with fail
      go_end0
      have t01 := turns_g ((grown_setCell wr g 0 (.slice A8 m8 c8)).trans (grown_setCell _ g 1 (.slice none 0 0)))
      have T := (Turns.of_below (fun k => k = g) HB.out).same t01
      have hRg : ∀ k, R k → ¬ k = g := fun k hk e => HH.out.free (e ▸ hk)
      have l6 := World.ownsRow.lt HO.out
      have hls : ss.length = sk.length := by
        have h1 := congrArg List.length HS.out
        rw [List.length_map, doneTo_length, HH.out.lenS] at h1
        exact h1.symm
      refine ⟨rfl, ⟨.slice A8 m8 c8, .slice none 0 0, sk, [], ⟨(HR.out.put 0 _).put 1 _, wide_free HH.out.free hg0, Row_.of_own (t01.own HO.out fun k hk e => by have := (l6 k hk).1; omega) hls fun k hk => .inr ⟨(l6 k hk).1, by have := (l6 k hk).2; simpa using this⟩, Row_.nil _ _, fun x hx => ((HE.out x hx).turned T hRg).mono fun k hk => .inl hk, fun x hx => (nomatch hx), ?_, rfl⟩⟩, T⟩
      show doneTo _ a.pend a.sure a.pend.length = _
      rw [HH.out.lenP]
      exact HS.out.symm
end Go.Proofs.Ytenmgpijhaalbaa
