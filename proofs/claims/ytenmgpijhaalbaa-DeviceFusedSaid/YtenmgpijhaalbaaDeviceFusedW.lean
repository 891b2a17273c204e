/-
  The walk of DeviceFused. Conditions: what a row hands over.
-/
import Derived.Test.YtenmgpijhaalbaaDevK
namespace Go.Proofs.Ytenmgpijhaalbaa
open Go.RowKit
set_option linter.unusedVariables false
set_option maxRecDepth 20000

/-- A device with a fuse of z. -/
structure Fu (d : Dev) (z : Int) : Prop where
  there : d.there = true
  left : d.left = z
  burnt : d.burnt = true → z = 0
  ok : 0 ≤ z
theorem Fu.goes {d : Dev} {z : Int} (h : Fu d z) (hg : d.goes = true) : 0 < z ∧ d.burnt = false ∧ Fu d.spend (max (z - 1) 0) := by
  have h1 := h.there
  have h2 := h.left
  have h4 := h.ok
  have hb : d.burnt = false := by
    cases hb : d.burnt
    · rfl
    · simp [Dev.goes, hb] at hg
  have hz : z ≠ 0 := by
    intro e
    simp [Dev.goes, hb, h1, h2, e] at hg
  refine ⟨by omega, hb, h1, ?_, ?_, by omega⟩
  · show (if d.goes && d.there then d.left - 1 else d.left) = _
    rw [hg, h1, h2]
    simp
    omega
  · intro e
    have : d.spend.burnt = !d.goes := rfl
    rw [this, hg] at e
    cases e
theorem Fu.stops {d : Dev} {z : Int} (h : Fu d z) (hg : d.goes = false) : z = 0 ∧ Fu d.spend (max (z - 1) 0) := by
  have h1 := h.there
  have h2 := h.left
  have h3 := h.burnt
  have hz : z = 0 := by
    cases hb : d.burnt
    · simp [Dev.goes, hb, h1, h2] at hg
      exact hg
    · exact h3 hb
  subst hz
  refine ⟨rfl, h1, ?_, fun _ => by omega, by omega⟩
  show (if d.goes && d.there then d.left - 1 else d.left) = _
  rw [hg, h2]
  rfl
theorem Dev.write_cases (d : Dev) (i : Int) (b : List UInt8) : ((d.writeE i b = 60 ∨ d.writeE i b = 2) ∧ d.write i b = d) ∨ (d.goes = true ∧ d.writeE i b = 0 ∧ d.write i b = d.spend.put i.toNat (pad b)) ∨ (d.goes = false ∧ d.writeE i b = 61 ∧ d.write i b = d.spend) := by
  unfold Dev.writeE Dev.write
  split
  · exact .inl ⟨.inl rfl, rfl⟩
  · split
    · exact .inl ⟨.inr rfl, rfl⟩
    · cases hg : d.goes
      · exact .inr (.inr ⟨rfl, rfl, rfl⟩)
      · exact .inr (.inl ⟨rfl, rfl, rfl⟩)
theorem Fu.put {d : Dev} {z : Int} (h : Fu d z) (i : Nat) (x : List UInt8) : Fu (d.put i x) z := ⟨h.there, h.left, h.burnt, h.ok⟩
theorem Fu.synced {d : Dev} {z : Int} (h : Fu d.spend z) (hg : d.goes = true) : Fu d.sync z := by
  have e : d.sync = { d.spend with sure := d.now, pend := [] } := by unfold Dev.sync; rw [if_pos hg]
  rw [e]
  exact ⟨h.there, h.left, h.burnt, h.ok⟩

set_option maxHeartbeats 4000000 in
theorem deviceFused_walk (w : World) (v0 : Value) (m : List OpD) (hm : Ops w v0 m) (n : Int) (hn : -9223372036854775808 ≤ n ∧ n ≤ 9223372036854775807) :
    Calls Try.prog 7 #[v0, .int .i64 n] w (RetV w (.bool true)) := by
  have HM0 := Lib.hid hm
  obtain ⟨mA, mc, rfl, hm1, hm2, _⟩ := hm
  unfold maxLen at hm2
  have HN : Hid (∀ w, Calls Try.prog 9 #[.int .i64 8] w fun e w' => ∃ g, e = .returned (.tuple #[.pointer (some ⟨g, 0, none⟩), .int .i64 0]) ∧ DevOf w w' g (Dev.new 8)) := fun w => devNew_of w 8 (by omega) (by omega)
  go_enter Try.func7, Try.ntmps7
  go_wp2_with fail
  refine (devAwake_true w).mono ?_
  rintro e w1 ⟨rfl, b1⟩
  have B1 := Lib.hid b1
  have HM := Lib.hid (HM0.out.below b1)
  clear b1 HM0
  go_wp2_with fail
  refine (HN.out w1).mono ?_
  rintro e w2 ⟨g, rfl, x2⟩
  have D2 := Lib.hid x2
  clear x2
  by_cases h0 : n < 0
  · have hd0 : decide (n < 0) = true := by simp; omega
    have B2 := Lib.hid (below_size B1.out D2.out.below)
    go_wp2
    go_ret
    exact ⟨rfl, B2.out⟩
  have hd0 : decide (n < 0) = false := by simp; omega
  by_cases h40 : 40 < m.length
  · have hd4 : decide ((40 : Int) < (m.length : Int)) = true := by simp; omega
    have B2 := Lib.hid (below_size B1.out D2.out.below)
    go_wp2
    go_ret
    exact ⟨rfl, B2.out⟩
  have hd4 : decide ((40 : Int) < (m.length : Int)) = false := by simp; omega
  go_wp2_with fail
  refine (devFuse_of D2.out n hn).mono ?_
  rintro e w3 ⟨rfl, x3⟩
  have D3 := Lib.hid x3
  clear x3 D2
  go_wp2_with fail
  go_loopw [1, 8] (fun u i wr => ∃ (j : Nat) (z : Int), j ≤ m.length ∧ i = .int .i64 (j : Int) ∧ u = .int .i64 z ∧ z ≤ 9223372036854775807 ∧ ∃ d : Dev, d.pend.length ≤ j ∧ Hid (Fu d z) ∧ Hid (DevOf w1 wr g d)) (fun _ i _ => m.length - (intOf i).toNat)
  case atStart => exact ⟨0, n, by omega, rfl, rfl, hn.2, (Dev.new 8).set n, Nat.le_refl _, ⟨by show decide (0 ≤ n) = true; simp; omega, rfl, (fun h => nomatch h), by omega⟩, D3.out⟩
  case round =>
    obtain ⟨j, z, hjl, rfl, rfl, hz9, d, hp, HF, HD⟩ := hrel
    clear D3
    have hz0 := HF.out.ok
    by_cases hlt : j < m.length
    · have hd1 : decide ((j : Int) < (m.length : Int)) = true := by simp; omega
      obtain ⟨b, off, rfl, vb, vk, ho⟩ := HM.out.at_ j hlt
      have ho2 := ho.below HD.out.below
      have cd := ho2.cell 0 _ rfl
      rw [Nat.add_zero] at cd
      have ci := ho2.cell 1 _ rfl
      have cb := ho2.cell 2 _ rfl
      have ck := ho2.cell 3 _ rfl
      have HO := Lib.hid ho
      have HB := Lib.hid ho2.bs
      have hlo := ho.low
      obtain ⟨bA, bc, rfl, _⟩ := ho.bs
      obtain ⟨kA, kc, rfl, _⟩ := ho.bls
      generalize m[j] = o at *
      obtain ⟨do_, i, bb, keep⟩ := o
      have hjl2 : (j : Int) < (m.length : Int) := by omega
      clear ho ho2
      simp only at *
      clear hd0 hd4 h0 HN
      have hw : IntKind.i64.wrap (z - 1) = z - 1 := IntWalk.i64_in _ (by omega)
      go_wp2_with fail
      refine (devDown_of HD.out).mono ?_
      rintro e w4 ⟨rfl, b4⟩
      have D4 := Lib.hid (HD.out.kept b4)
      have cd4 := (b4.cell (p := ⟨b, off + j * 4, none⟩) (World.block_lt_of_cell? _ _ cd)).trans cd
      have ci4 := (b4.cell (p := ⟨b, off + j * 4 + 1, none⟩) (World.block_lt_of_cell? _ _ ci)).trans ci
      have cb4 := (b4.cell (p := ⟨b, off + j * 4 + 2, none⟩) (World.block_lt_of_cell? _ _ cb)).trans cb
      have HB4 := Lib.hid (HB.out.below b4)
      clear b4 cd ci cb ck HD HB
      by_cases e1 : do_ = 1
      · subst e1
        rcases d.write_cases i bb with ⟨hE, hW⟩ | ⟨hg, hE, hW⟩ | ⟨hg, hE, hW⟩
        · have hs := devWrite_of (D4.out.kept (Below.refl _ _).drew) i _ bb HB4.out.drew (by omega)
          rw [hW] at hs
          have HS := Lib.hid hs
          clear hs hW
          go_wp2_with fail
          go_still_tail 11, (by kernel_rfl)
          change wpList _ _ _ _ _ w4.drew
          go_wp2_with fail
          refine HS.out.mono ?_
          rintro e w5 ⟨rfl, x5⟩
          have D5 := Lib.hid x5
          clear x5 HS D4 cd4 ci4 cb4
          rcases hE with hE | hE
          · rw [hE]
            go_wp2_with fail
            refine ⟨⟨j + 1, z, by omega, by congr 1, rfl, hz9, d, by omega, HF, D5⟩, ?_⟩
            show m.length - ((j : Int) + 1).toNat < m.length - (j : Int).toNat
            omega
          · rw [hE]
            go_wp2_with fail
            refine ⟨⟨j + 1, z, by omega, by congr 1, rfl, hz9, d, by omega, HF, D5⟩, ?_⟩
            show m.length - ((j : Int) + 1).toNat < m.length - (j : Int).toNat
            omega
        · obtain ⟨hz1, hb, hf⟩ := HF.out.goes hg
          rw [show max (z - 1) 0 = z - 1 by omega] at hf
          have HF2 : Hid (Fu (d.spend.put i.toNat (pad bb)) (z - 1)) := hf.put _ _
          have hpp := d.write_pend i bb
          rw [hW] at hpp
          have hs := devWrite_of (D4.out.kept (Below.refl _ _).drew) i _ bb HB4.out.drew (by omega)
          rw [hW, hE] at hs
          have HS := Lib.hid hs
          have hdz : decide (0 < z) = true := by simp; omega
          rw [hb]
          clear hs hW hE hf
          go_wp2_with fail
          go_still_tail 11, (by kernel_rfl)
          change wpList _ _ _ _ _ w4.drew
          go_wp2_with fail
          refine HS.out.mono ?_
          rintro e w5 ⟨rfl, x5⟩
          have D5 := Lib.hid x5
          clear x5 HS D4 cd4 ci4 cb4
          go_wp2_with fail
          refine ⟨⟨j + 1, _, by omega, by congr 1, rfl, by omega, _, Nat.le_trans hpp (by omega), HF2, D5⟩, ?_⟩
          show m.length - ((j : Int) + 1).toNat < m.length - (j : Int).toNat
          omega
        · obtain ⟨hz1, hf⟩ := HF.out.stops hg
          have HF2 := Lib.hid hf
          subst hz1
          have hs := devWrite_of (D4.out.kept (Below.refl _ _).drew) i _ bb HB4.out.drew (by omega)
          rw [hW, hE] at hs
          have HS := Lib.hid hs
          clear hs hW hE hf
          go_wp2_with fail
          go_still_tail 11, (by kernel_rfl)
          change wpList _ _ _ _ _ w4.drew
          go_wp2_with fail
          refine HS.out.mono ?_
          rintro e w5 ⟨rfl, x5⟩
          have D5 := Lib.hid x5
          clear x5 HS D4 cd4 ci4 cb4
          cases hbb : d.burnt
          · go_wp2_with fail
            refine ⟨⟨j + 1, _, by omega, by congr 1, rfl, by omega, d.spend, by show d.pend.length ≤ j + 1; omega, HF2, D5⟩, ?_⟩
            show m.length - ((j : Int) + 1).toNat < m.length - (j : Int).toNat
            omega
          · go_wp2_with fail
            refine ⟨⟨j + 1, _, by omega, by congr 1, rfl, by omega, d.spend, by show d.pend.length ≤ j + 1; omega, HF2, D5⟩, ?_⟩
            show m.length - ((j : Int) + 1).toNat < m.length - (j : Int).toNat
            omega
      · have e1' : decide (do_ = 1) = false := decide_eq_false e1
        by_cases e2 : do_ = 2
        · subst e2
          cases hg : d.goes
          · obtain ⟨hz1, hf⟩ := HF.out.stops hg
            have hW : d.sync = d.spend := by unfold Dev.sync; rw [hg]; rfl
            have hE : d.syncE = 61 := by unfold Dev.syncE; rw [hg]; rfl
            have HF2 := Lib.hid hf
            subst hz1
            have hs := devSync_of D4.out
            rw [hW, hE] at hs
            have HS := Lib.hid hs
            clear hs hW hE hf
            go_wp2_with fail
            refine HS.out.mono ?_
            rintro e w5 ⟨rfl, x5⟩
            have D5 := Lib.hid x5
            clear x5 HS D4 cd4 ci4 cb4
            cases hbb : d.burnt
            · go_wp2_with fail
              refine ⟨⟨j + 1, _, by omega, by congr 1, rfl, by omega, d.spend, by show d.pend.length ≤ j + 1; omega, HF2, D5⟩, ?_⟩
              show m.length - ((j : Int) + 1).toNat < m.length - (j : Int).toNat
              omega
            · go_wp2_with fail
              refine ⟨⟨j + 1, _, by omega, by congr 1, rfl, by omega, d.spend, by show d.pend.length ≤ j + 1; omega, HF2, D5⟩, ?_⟩
              show m.length - ((j : Int) + 1).toNat < m.length - (j : Int).toNat
              omega
          · obtain ⟨hz1, hb, hf⟩ := HF.out.goes hg
            have hE : d.syncE = 0 := by unfold Dev.syncE; rw [if_pos hg]
            rw [show max (z - 1) 0 = z - 1 by omega] at hf
            have HF2 : Hid (Fu d.sync (z - 1)) := hf.synced hg
            have hpp := d.sync_pend
            have hs := devSync_of D4.out
            rw [hE] at hs
            have HS := Lib.hid hs
            have hdz : decide (0 < z) = true := by simp; omega
            rw [hb]
            clear hs hE hf
            go_wp2_with fail
            refine HS.out.mono ?_
            rintro e w5 ⟨rfl, x5⟩
            have D5 := Lib.hid x5
            clear x5 HS D4 cd4 ci4 cb4
            go_wp2_with fail
            refine ⟨⟨j + 1, _, by omega, by congr 1, rfl, by omega, _, Nat.le_trans hpp (by omega), HF2, D5⟩, ?_⟩
            show m.length - ((j : Int) + 1).toNat < m.length - (j : Int).toNat
            omega
        · have e2' : decide (do_ = 2) = false := decide_eq_false e2
          go_wp2_with fail
          refine ⟨⟨j + 1, z, by omega, by congr 1, rfl, hz9, d, by omega, HF, D4⟩, ?_⟩
          show m.length - ((j : Int) + 1).toNat < m.length - (j : Int).toNat
          omega
    · have hd1 : decide ((j : Int) < (m.length : Int)) = false := by simp; omega
      go_wp2_with fail
      refine (devCrash_of HD.out _ [] (Bls.nil _) (by omega)).mono ?_
      rintro e w4 ⟨rfl, x4⟩
      have D4 := Lib.hid x4
      clear x4
      go_wp2_with fail
      have hdn := devDown_of D4.out
      rw [show (d.crash []).burnt = false from rfl] at hdn
      refine hdn.mono ?_
      rintro e w5 ⟨rfl, b5⟩
      have hs := devSync_of (D4.out.kept b5)
      rw [show (d.crash []).syncE = 0 from rfl] at hs
      have HS := Lib.hid hs
      clear b5 hs
      go_wp2_with fail
      refine HS.out.mono ?_
      rintro e w6 ⟨rfl, x6⟩
      have B6 := Lib.hid (below_size B1.out x6.below)
      clear x6 HS
      go_wp2
      go_ret
      exact ⟨rfl, B6.out⟩
end Go.Proofs.Ytenmgpijhaalbaa
