/-
  The walk of DevicePlays. Conditions: what a row hands over.
-/
import Derived.Test.YtenmgpijhaalbaaDocG
namespace Go.Proofs.Ytenmgpijhaalbaa
open Go.RowKit
set_option linter.unusedVariables false
set_option maxRecDepth 20000

theorem Two.start {w w1 w2 : World} {gd g : Nat} {d : Dev} {a : Ab} (hd : DevOf w w1 gd d) (b2 : Below w1.heap.size w1 w2) (hg : w1.heap.size ≤ g) (h2 : DocIn w2 (fun k => w1.heap.size ≤ k ∧ k < w2.heap.size ∧ k ≠ g) g a) : Two w w2 gd d g a := by
  obtain ⟨b, gn, cn, gs, cs, vp, hd, hF⟩ := hd
  have hs := b.size
  have hs2 := b2.size
  exact ⟨below_size b b2, fun k => w.heap.size ≤ k ∧ k < w1.heap.size, _, ⟨gn, cn, gs, cs, vp, hd.kept b2, fun k hk => ⟨hF k hk, hd.lt hk⟩⟩, h2, fun k hk => ⟨fun hr => by omega, by omega⟩, fun k hk => ⟨hk.1, by omega⟩, fun k hk => ⟨by omega, hk.2.1⟩, by omega⟩

set_option maxHeartbeats 8000000 in
theorem devicePlays_walk (w : World) (n : Int) (hn : -9223372036854775808 ≤ n ∧ n ≤ 9223372036854775807) (v1 : Value) (m : List OpD) (hm : Ops w v1 m) :
    Calls Try.prog 3 #[.int .i64 n, v1] w (RetV w (.bool true)) := by
  have HM0 := Lib.hid hm
  obtain ⟨mA, mc, rfl, hm1, hm2, _⟩ := hm
  unfold maxLen at hm2
  by_cases hno : n < 1 ∨ 600 < n
  · have N1 : Hid (∀ w, Calls Try.prog 9 #[.int .i64 n] w fun e w' => e = .returned (.tuple #[.pointer none, .int .i64 1]) ∧ Below w.heap.size w w') := fun w => devNew_none w n hno
    have N2 : Hid (∀ w, Calls Try.prog 10 #[.int .i64 n] w fun e w' => e = .returned (.tuple #[.pointer none, .int .i64 1]) ∧ Below w.heap.size w w') := fun w => docNew_none w n hno
    clear hno
    go_enter Try.func3, Try.ntmps3
    go_wp2_with fail
    refine (devAwake_true w).mono ?_
    rintro e w1 ⟨rfl, b1⟩
    have B1 := Lib.hid b1
    clear b1
    go_wp2_with fail
    refine (N1.out w1).mono ?_
    rintro e w2 ⟨rfl, b2⟩
    have B2 := Lib.hid (below_size B1.out b2)
    clear b2 B1
    go_wp2_with fail
    refine (N2.out w2).mono ?_
    rintro e w3 ⟨rfl, b3⟩
    have B3 := Lib.hid (below_size B2.out b3)
    clear b3 B2
    go_wp2
    go_ret
    exact ⟨rfl, B3.out⟩
  obtain ⟨N, rfl⟩ : ∃ N : Nat, n = (N : Int) := ⟨n.toNat, by omega⟩
  have hN1 : 1 ≤ N := by omega
  have hN2 : N ≤ 600 := by omega
  have N1 : Hid (∀ w, Calls Try.prog 9 #[.int .i64 (N : Int)] w fun e w' => ∃ g, e = .returned (.tuple #[.pointer (some ⟨g, 0, none⟩), .int .i64 0]) ∧ DevOf w w' g (Dev.new N)) := fun w => devNew_of w N hN1 hN2
  have N2 : Hid (∀ w, Calls Try.prog 10 #[.int .i64 (N : Int)] w fun e w' => ∃ g, e = .returned (.tuple #[.pointer (some ⟨g, 0, none⟩), .int .i64 0]) ∧ w.heap.size ≤ g ∧ g < w'.heap.size ∧ DocIn w' (fun k => w.heap.size ≤ k ∧ k < w'.heap.size ∧ k ≠ g) g (Ab.new N) ∧ Below w.heap.size w w') := fun w => docNew_any w N hN1 hN2
  clear hno
  go_enter Try.func3, Try.ntmps3
  go_wp2_with fail
  refine (devAwake_true w).mono ?_
  rintro e w1 ⟨rfl, b1⟩
  have B1 := Lib.hid b1
  have HM := Lib.hid (HM0.out.below b1)
  clear b1 HM0
  go_wp2_with fail
  refine (N1.out w1).mono ?_
  rintro e w2 ⟨gd, rfl, x2⟩
  have D2 := Lib.hid x2
  clear x2 N1
  go_wp2_with fail
  refine (N2.out w2).mono ?_
  rintro e w3 ⟨g, rfl, hg1, hg2, x3, b3⟩
  have T3 : Hid (Two w1 w3 gd (Dev.new N) g (Ab.new N)) := Two.start D2.out b3 hg1 x3
  clear x3 N2 D2 hg1 hg2 b3
  by_cases h10 : 10 < (N : Int)
  · have hd0 : decide ((10 : Int) < (N : Int)) = true := by simp; omega
    have B3 := Lib.hid (below_size B1.out T3.out.1)
    go_wp2
    go_ret
    exact ⟨rfl, B3.out⟩
  have hd0 : decide ((10 : Int) < (N : Int)) = false := by simp; omega
  by_cases h40 : 40 < m.length
  · have hd4 : decide ((40 : Int) < (m.length : Int)) = true := by simp; omega
    have B3 := Lib.hid (below_size B1.out T3.out.1)
    go_wp2
    go_ret
    exact ⟨rfl, B3.out⟩
  have hd4 : decide ((40 : Int) < (m.length : Int)) = false := by simp; omega
  go_wp2_with fail
  go_loopw [6, 8, 10] (fun ud ur u wr => ∃ (j gd g : Nat) (d : Dev) (a : Ab), j ≤ m.length ∧ u = .int .i64 (j : Int) ∧ ud = .pointer (some ⟨gd, 0, none⟩) ∧ ur = .pointer (some ⟨g, 0, none⟩) ∧ d.pend.length ≤ j ∧ Hid (Sim d a) ∧ Hid (Two w1 wr gd d g a)) (fun _ _ u _ => m.length - (intOf u).toNat)
  case atStart => exact ⟨0, gd, g, Dev.new N, Ab.new N, by omega, rfl, rfl, rfl, Nat.le_refl _, Sim.new N hN1 hN2, T3.out⟩
  case round =>
    obtain ⟨j, gd, g, d, a, hjl, rfl, rfl, rfl, hp, HS, HT⟩ := hrel
    clear T3
    by_cases hlt : j < m.length
    · have hd1 : decide ((j : Int) < (m.length : Int)) = true := by simp; omega
      obtain ⟨b, off, rfl, vb, vk, ho⟩ := HM.out.at_ j hlt
      have ho2 := ho.below HT.out.1
      have cd := ho2.cell 0 _ rfl
      rw [Nat.add_zero] at cd
      have ci := ho2.cell 1 _ rfl
      have cb := ho2.cell 2 _ rfl
      have ck := ho2.cell 3 _ rfl
      have HO := Lib.hid ho
      have HB := Lib.hid ho2.bs
      have hlo := ho.low
      obtain ⟨bA, bc, rfl, _⟩ := ho.bs
      obtain ⟨kA, kc, rfl, _⟩ := ho.bls
      generalize m[j] = o at *
      obtain ⟨do_, i, bb, keep⟩ := o
      have hjl2 : (j : Int) < (m.length : Int) := by omega
      clear ho ho2
      simp only at *
      clear hd0 hd4 h10
      by_cases e1 : do_ = 1
      · subst e1
        have hE : Hid (a.writeE i bb = d.writeE i bb) := HS.out.writeE i bb
        have SS := Lib.hid (HS.out.write i bb)
        have hpw := d.write_pend i bb
        go_wp2_with fail
        go_still_tail 11, (by kernel_rfl)
        change wpList _ _ _ _ _ wr.drew
        go_wp2_with fail
        have T0 := HT.out.kept (Below.refl _ _).drew
        refine (T0.dev fun gn cn gs cs vp hd _ => devWrite_any wr.drew gd gn cn gs cs vp d hd i _ bb HB.out.drew (by omega)).mono ?_
        rintro e w4 ⟨rfl, t4⟩
        have T4 := Lib.hid t4
        have ho4 := HO.out.below t4.1
        have ci4 := ho4.cell 1 _ rfl
        have cb4 := ho4.cell 2 _ rfl
        have HB4 := Lib.hid ho4.bs
        clear t4 T0 ho4 ci cb ck cd
        go_wp2_with fail
        go_still_tail 11, (by kernel_rfl)
        change wpList _ _ _ _ _ w4.drew
        go_wp2_with fail
        have hdw := (T4.out.kept (Below.refl _ _).drew)
        refine ((hdw.docWrite2 HS.out (by omega) i _ bb HB4.out.drew)).mono ?_
        rintro e w5 ⟨rfl, t5⟩
        have TT := Lib.hid t5
        clear t5 hdw T4
        rw [hE.out]
        go_wp2_with fail
        refine (TT.out.same SS.out (by have hq := Nat.le_trans hpw (Nat.succ_le_succ hp); omega)).mono ?_
        rintro e w8 ⟨rfl, t8⟩
        have T8 := Lib.hid t8
        clear t8 TT
        go_wp2_with fail
        refine ⟨⟨j + 1, gd, g, _, _, by omega, by congr 1, rfl, rfl, Nat.le_trans hpw (Nat.succ_le_succ hp), SS, T8⟩, ?_⟩
        show m.length - ((j : Int) + 1).toNat < m.length - (j : Int).toNat
        omega
      · have e1' : decide (do_ = 1) = false := decide_eq_false e1
        by_cases e2 : do_ = 2
        · subst e2
          have hE : Hid (a.syncE = d.syncE) := HS.out.syncE
          have SS := Lib.hid HS.out.sync
          have hpw := Nat.le_trans (Dev.sync_pend (d := d)) (Nat.le_succ_of_le hp)
          go_wp2_with fail
          refine (HT.out.dev fun gn cn gs cs vp hd _ => devSync_any wr gd gn cn gs cs vp d hd).mono ?_
          rintro e w4 ⟨rfl, t4⟩
          have T4 := Lib.hid t4
          clear t4 ci cb ck cd
          go_wp2_with fail
          refine (T4.out.docSync2 HS.out (by omega)).mono ?_
          rintro e w5 ⟨rfl, t5⟩
          have TT := Lib.hid t5
          clear t5 T4
          rw [hE.out]
          go_wp2_with fail
          refine (TT.out.same SS.out (by have hq := hpw; omega)).mono ?_
          rintro e w8 ⟨rfl, t8⟩
          have T8 := Lib.hid t8
          clear t8 TT
          go_wp2_with fail
          refine ⟨⟨j + 1, gd, g, _, _, by omega, by congr 1, rfl, rfl, hpw, SS, T8⟩, ?_⟩
          show m.length - ((j : Int) + 1).toNat < m.length - (j : Int).toNat
          omega
        · have e2' : decide (do_ = 2) = false := decide_eq_false e2
          by_cases e3 : do_ = 3
          · subst e3
            have SS := Lib.hid (HS.out.crash keep)
            have hpw : (d.crash keep).pend.length ≤ j + 1 := Nat.zero_le _
            have hkb : Hid (∀ W, Below w1.heap.size w1 W → Bls W (.slice kA keep.length kc) keep) := fun W hb => HO.out.bls.below hb
            have hkl : Hid (0 < keep.length → ∀ k, (Value.slice kA keep.length kc).ownBlock = some k → k < w1.heap.size) := fun hl => HO.out.bls.low hl
            go_wp2_with fail
            refine (HT.out.dev fun gn cn gs cs vp hd hF => devCrash_any wr gd gn cn gs cs vp d hd _ keep (hkb.out _ HT.out.1) (fun hl k hk2 hf => by have := hkl.out hl k hk2; have := hF k hf; omega) (by omega)).mono ?_
            rintro e w4 ⟨rfl, t4⟩
            have T4 := Lib.hid t4
            have ho4 := HO.out.below t4.1
            have ck4 := ho4.cell 3 _ rfl
            clear t4 ho4 ci cb ck cd
            go_wp2_with fail
            refine (T4.out.docCrash2 HS.out (by omega) _ keep (hkb.out _ T4.out.1)).mono ?_
            rintro e w5 ⟨rfl, t5⟩
            have TT := Lib.hid t5
            clear t5 T4
            go_wp2_with fail
            refine (TT.out.same SS.out (by have hq := hpw; omega)).mono ?_
            rintro e w8 ⟨rfl, t8⟩
            have T8 := Lib.hid t8
            clear t8 TT
            go_wp2_with fail
            refine ⟨⟨j + 1, gd, g, _, _, by omega, by congr 1, rfl, rfl, hpw, SS, T8⟩, ?_⟩
            show m.length - ((j : Int) + 1).toNat < m.length - (j : Int).toNat
            omega
          · have e3' : decide (do_ = 3) = false := decide_eq_false e3
            by_cases e4 : do_ = 4
            · subst e4
              have SS := Lib.hid (HS.out.set hlo)
              have hpw : (d.set i).pend.length ≤ j + 1 := Nat.le_succ_of_le hp
              go_wp2_with fail
              refine (HT.out.dev fun gn cn gs cs vp hd _ => devFuse_any wr gd gn cn gs cs vp d hd i hlo).mono ?_
              rintro e w4 ⟨rfl, t4⟩
              have T4 := Lib.hid t4
              have ho4 := HO.out.below t4.1
              have ci4 := ho4.cell 1 _ rfl
              clear t4 ho4 ci cb ck cd
              go_wp2_with fail
              refine (T4.out.docFuse i).mono ?_
              rintro e w5 ⟨rfl, t5⟩
              have TT := Lib.hid t5
              clear t5 T4
              go_wp2_with fail
              refine (TT.out.same SS.out (by have hq := hpw; omega)).mono ?_
              rintro e w8 ⟨rfl, t8⟩
              have T8 := Lib.hid t8
              clear t8 TT
              go_wp2_with fail
              refine ⟨⟨j + 1, gd, g, _, _, by omega, by congr 1, rfl, rfl, hpw, SS, T8⟩, ?_⟩
              show m.length - ((j : Int) + 1).toNat < m.length - (j : Int).toNat
              omega
            · have e4' : decide (do_ = 4) = false := decide_eq_false e4
              by_cases e5 : do_ = 5
              · subst e5
                have SS := HS
                have hpw : d.pend.length ≤ j + 1 := Nat.le_succ_of_le hp
                go_wp2_with fail
                refine (devCopy_of HT.out.of (by omega)).mono ?_
                rintro e w4 ⟨gd2, rfl, x4⟩
                have T4 := Lib.hid (HT.out.copyD x4)
                clear x4 ci cb ck cd
                go_wp2_with fail
                refine T4.out.copyR.mono ?_
                rintro e w5 ⟨g2, rfl, t5⟩
                have TT := Lib.hid t5
                clear t5 T4
                go_wp2_with fail
                refine (TT.out.same SS.out (by have hq := hpw; omega)).mono ?_
                rintro e w8 ⟨rfl, t8⟩
                have T8 := Lib.hid t8
                clear t8 TT
                go_wp2_with fail
                refine ⟨⟨j + 1, gd2, g2, _, _, by omega, by congr 1, rfl, rfl, hpw, SS, T8⟩, ?_⟩
                show m.length - ((j : Int) + 1).toNat < m.length - (j : Int).toNat
                omega
              · have e5' : decide (do_ = 5) = false := decide_eq_false e5
                have SS := HS
                have TT := HT
                have hpw : d.pend.length ≤ j + 1 := Nat.le_succ_of_le hp
                clear ci cb ck
                go_wp2_with fail
                refine (TT.out.same SS.out (by have hq := hpw; omega)).mono ?_
                rintro e w8 ⟨rfl, t8⟩
                have T8 := Lib.hid t8
                clear t8 TT
                go_wp2_with fail
                refine ⟨⟨j + 1, gd, g, _, _, by omega, by congr 1, rfl, rfl, hpw, SS, T8⟩, ?_⟩
                show m.length - ((j : Int) + 1).toNat < m.length - (j : Int).toNat
                omega
    · have hd1 : decide ((j : Int) < (m.length : Int)) = false := by simp; omega
      have B9 := Lib.hid (below_size B1.out HT.out.1)
      go_wp2
      go_ret
      exact ⟨rfl, B9.out⟩
end Go.Proofs.Ytenmgpijhaalbaa
