/-
  The walk of DeviceSure. Conditions: what a row hands over.
-/
import Derived.Test.YtenmgpijhaalbaaDevK
namespace Go.Proofs.Ytenmgpijhaalbaa
open Go.RowKit
set_option linter.unusedVariables false
set_option maxRecDepth 20000

set_option maxHeartbeats 4000000 in
theorem deviceSure_walk (w : World) (v0 : Value) (l : List OpD) (hl : Ops w v0 l) (v1 : Value) (k1 : List Bool) (hk1 : Bls w v1 k1) (v2 : Value) (k2 : List Bool) (hk2 : Bls w v2 k2) :
    Calls Try.prog 4 #[v0, v1, v2] w (RetV w (.bool true)) := by
  have HL := Lib.hid hl
  have HK1 := Lib.hid hk1
  have HK2 := Lib.hid hk2
  clear hl hk1 hk2
  go_enter Try.func4, Try.ntmps4
  go_wp2_with fail
  refine (devAwake_true w).mono ?_
  rintro e w1 ⟨rfl, b1⟩
  have B1 := Lib.hid b1
  clear b1
  go_wp2_with fail
  refine (made_any w1 _ l (HL.out.below B1.out)).mono ?_
  rintro e w2 ⟨g, rfl, d, hd, h8, hp⟩
  have D2 := Lib.hid hd
  clear hd
  by_cases hg : d.goes = true
  · have e1 : d.syncE = 0 := by unfold Dev.syncE; rw [if_pos hg]
    have e2 : d.sync = { d.spend with sure := d.now, pend := [] } := by unfold Dev.sync; rw [if_pos hg]
    have hs := devSync_of D2.out
    have L1 : Hid (d.now.flatten.length = 2048) := all_2048 D2.out.ok.now h8
    generalize hnow : d.now = S at *
    rw [e1, e2] at hs
    have HS := Lib.hid hs
    clear hs e1 e2
    go_wp2_with fail
    refine HS.out.mono ?_
    rintro e w3 ⟨rfl, x3⟩
    obtain ⟨d3, hd3⟩ : ∃ d3 : Dev, d3 = { d.spend with now := S, sure := S, pend := [] } := ⟨_, rfl⟩
    have n3 : d3.now = S := by rw [hd3]
    have c3 : ∀ k, (d3.crash k).now = S ∧ (d3.crash k).pend = [] ∧ ∀ k2, ((d3.crash k).crash k2).now = S := fun k => by rw [hd3]; exact ⟨rfl, rfl, fun _ => rfl⟩
    have D3 : Hid (Devs w1 w3 [(g, d3)] []) := Devs.of1 (by rw [hd3]; exact hnow ▸ x3)
    have p3 : d3.pend = [] := by rw [hd3]
    clear x3 HS D2
    go_wp2_with fail
    refine (devAll_s D3.out 0 rfl (by rw [n3]; exact h8)).mono ?_
    rintro e w4 ⟨va, rfl, x4⟩
    rw [n3] at x4
    have D4 := Lib.hid x4
    clear x4 D3
    go_wp2_with fail
    refine (devCrash_o D4.out 0 rfl _ k1 (HK1.out.below B1.out) (by rw [p3]; decide)).mono ?_
    rintro e w5 ⟨rfl, x5⟩
    have D5 := Lib.hid x5
    clear x5 D4
    go_wp2_with fail
    refine (devAll_s D5.out 0 rfl (by rw [(c3 k1).1]; exact h8)).mono ?_
    rintro e w6 ⟨vb, rfl, x6⟩
    rw [(c3 k1).1] at x6
    have D6 := Lib.hid x6
    clear x6 D5
    go_wp2_with fail
    refine (devCrash_o D6.out 0 rfl _ k2 (HK2.out.below B1.out) (by rw [(c3 k1).2.1]; decide)).mono ?_
    rintro e w7 ⟨rfl, x7⟩
    have D7 := Lib.hid x7
    clear x7 D6
    go_wp2_with fail
    refine (devAll_s D7.out 0 rfl (by show ((d3.crash k1).crash k2).now.length = 8; rw [(c3 k1).2.2]; exact h8)).mono ?_
    rintro e w8 ⟨vc, rfl, x8⟩
    have D8 : Hid (Devs w1 w8 [(g, (d3.crash k1).crash k2)] [(vc, S.flatten), (vb, S.flatten), (va, S.flatten)]) := by
      have := x8
      rw [(c3 k1).2.2] at this
      exact this
    clear x8 D7
    have SA := Lib.hid (D8.out.bs_ 2 rfl)
    have SB := Lib.hid (D8.out.bs_ 1 rfl)
    have SC := Lib.hid (D8.out.bs_ 0 rfl)
    have B8 := Lib.hid (below_size B1.out D8.out.below)
    clear D8 c3 p3 n3 hd3
    obtain ⟨A, c, rfl⟩ := SA.out.shape2
    rw [L1.out] at SA ⊢
    go_wp2_with fail
    refine (same_yes _ _ _ _ SA.out SB.out).mono ?_
    rintro e w9 ⟨rfl, b9⟩
    have B9 := Lib.hid (below_size B8.out b9)
    have SB9 := Lib.hid (SB.out.below b9)
    have SC9 := Lib.hid (SC.out.below b9)
    clear b9 SA SB SC B8
    go_wp2_with fail
    refine (same_yes _ _ _ _ SB9.out SC9.out).mono ?_
    rintro e w10 ⟨rfl, b10⟩
    have B10 := Lib.hid (below_size B9.out b10)
    clear b10 SB9 SC9 B9
    go_wp2
    go_ret
    exact ⟨rfl, B10.out⟩
  · simp only [Bool.not_eq_true] at hg
    have e1 : d.syncE = 61 := by unfold Dev.syncE; rw [hg]; rfl
    have hs := devSync_of D2.out
    rw [e1] at hs
    have HS := Lib.hid hs
    clear hs e1
    go_wp2_with fail
    refine HS.out.mono ?_
    rintro e w3 ⟨rfl, x3⟩
    have B3 := Lib.hid (below_size B1.out x3.below)
    clear x3 HS D2
    go_wp2
    go_ret
    exact ⟨rfl, B3.out⟩
end Go.Proofs.Ytenmgpijhaalbaa
