/-
  The walk of DeviceCopy. Conditions: what a row hands over.
-/
import Derived.Test.YtenmgpijhaalbaaDevK
namespace Go.Proofs.Ytenmgpijhaalbaa
open Go.RowKit
set_option linter.unusedVariables false
set_option maxRecDepth 20000

set_option maxHeartbeats 4000000 in
theorem deviceCopy_walk (w : World) (v0 : Value) (l : List OpD) (hl : Ops w v0 l) (v1 : Value) (m : List OpD) (hm : Ops w v1 m) :
    Calls Try.prog 6 #[v0, v1] w (RetV w (.bool true)) := by
  have HL := Lib.hid hl
  have HM0 := Lib.hid hm
  obtain ⟨mA, mc, rfl, hm1, hm2, _⟩ := hm
  unfold maxLen at hm2
  clear hl
  go_enter Try.func6, Try.ntmps6
  go_wp2_with fail
  refine (devAwake_true w).mono ?_
  rintro e w1 ⟨rfl, b1⟩
  have B1 := Lib.hid b1
  have HM := Lib.hid (HM0.out.below b1)
  clear b1 HM0
  go_wp2_with fail
  refine (made_any w1 _ l (HL.out.below B1.out)).mono ?_
  rintro e w2 ⟨g, rfl, d, hd, h8, hp⟩
  have D2 := Lib.hid (Devs.of1 hd)
  clear hd
  go_wp2_with fail
  refine (devAll_s D2.out 0 rfl h8).mono ?_
  rintro e w3 ⟨va, rfl, x3⟩
  have D3 := Lib.hid x3
  clear x3 D2
  go_wp2_with fail
  refine (devPending_of (D3.out.of (i := 0) rfl)).mono ?_
  rintro e w4 ⟨rfl, b4⟩
  have D4 := Lib.hid (D3.out.kept b4)
  clear b4 D3
  go_wp2_with fail
  refine (devCopy_of (D4.out.of (i := 0) rfl) (by omega)).mono ?_
  rintro e w5 ⟨g2, rfl, x5⟩
  have D5 : Hid (Devs w1 w5 [(g, d), (g2, d)] [(va, d.now.flatten)]) := D4.out.more x5
  clear x5 D4
  go_wp2_with fail
  go_loopw [10] (fun i wr => ∃ j : Nat, j ≤ 40 ∧ j ≤ m.length ∧ i = .int .i64 (j : Int) ∧ ∃ dx : Dev, dx.pend.length ≤ 40 + j ∧ Hid (Devs w1 wr [(g, d), (g2, dx)] [(va, d.now.flatten)])) (fun i _ => 40 - (intOf i).toNat)
  case atStart => exact ⟨0, by omega, by omega, rfl, d, by omega, D5.out⟩
  case round =>
    obtain ⟨j, hj, hjl, rfl, dx, hpx, HD⟩ := hrel
    clear D5
    by_cases hlt : j < m.length
    · by_cases h40 : j < 40
      · have hd1 : decide ((j : Int) < (m.length : Int)) = true := by simp; omega
        have hd2 : decide ((j : Int) < 40) = true := by simp; omega
        obtain ⟨b, off, rfl, vb, vk, ho⟩ := HM.out.at_ j hlt
        have ho2 := ho.below HD.out.below
        have cd := ho2.cell 0 _ rfl
        rw [Nat.add_zero] at cd
        have ci := ho2.cell 1 _ rfl
        have cb := ho2.cell 2 _ rfl
        have ck := ho2.cell 3 _ rfl
        have HO := Lib.hid ho
        have HB := Lib.hid ho2.bs
        have hlo := ho.low
        obtain ⟨bA, bc, rfl, _⟩ := ho.bs
        obtain ⟨kA, kc, rfl, _⟩ := ho.bls
        generalize m[j] = o at *
        obtain ⟨do_, i, bb, keep⟩ := o
        have hjl2 : (j : Int) < (m.length : Int) := by omega
        clear ho ho2
        simp only at *
        by_cases e1 : do_ = 1
        · subst e1
          go_wp2_with fail
          go_still_tail 11, (by kernel_rfl)
          change wpList _ _ _ _ _ wr.drew
          go_wp2_with fail
          refine (devWrite_s (HD.out.kept (Below.refl _ _).drew) 1 rfl i _ bb HB.out.drew (by omega)).mono ?_
          rintro e w6 ⟨rfl, x6⟩
          have X6 : Hid (Devs w1 w6 [(g, d), (g2, dx.write i bb)] [(va, d.now.flatten)]) := x6
          clear x6
          go_wp2_with fail
          refine ⟨⟨j + 1, by omega, by omega, by congr 1, _, Nat.le_trans (Dev.write_pend i bb) (by omega), X6⟩, ?_⟩
          show 40 - ((j : Int) + 1).toNat < 40 - (j : Int).toNat
          omega
        · have e1' : decide (do_ = 1) = false := decide_eq_false e1
          by_cases e2 : do_ = 2
          · subst e2
            go_wp2_with fail
            refine (devSync_s HD.out 1 rfl).mono ?_
            rintro e w6 ⟨rfl, x6⟩
            have X6 : Hid (Devs w1 w6 [(g, d), (g2, dx.sync)] [(va, d.now.flatten)]) := x6
            clear x6
            go_wp2_with fail
            refine ⟨⟨j + 1, by omega, by omega, by congr 1, _, Nat.le_trans Dev.sync_pend (by omega), X6⟩, ?_⟩
            show 40 - ((j : Int) + 1).toNat < 40 - (j : Int).toNat
            omega
          · have e2' : decide (do_ = 2) = false := decide_eq_false e2
            go_wp2_with fail
            refine (devCrash_o HD.out 1 rfl _ keep HO.out.bls (by omega)).mono ?_
            rintro e w6 ⟨rfl, x6⟩
            have X6 : Hid (Devs w1 w6 [(g, d), (g2, dx.crash keep)] [(va, d.now.flatten)]) := x6
            clear x6
            go_wp2_with fail
            refine ⟨⟨j + 1, by omega, by omega, by congr 1, _, Nat.zero_le _, X6⟩, ?_⟩
            show 40 - ((j : Int) + 1).toNat < 40 - (j : Int).toNat
            omega
      · have hd1 : decide ((j : Int) < (m.length : Int)) = true := by simp; omega
        have hd2 : decide ((j : Int) < 40) = false := by simp; omega
        go_wp2_with fail
        refine (devAll_s HD.out 0 rfl h8).mono ?_
        rintro e w6 ⟨vb, rfl, x6⟩
        have D6 := Lib.hid x6
        clear x6
        go_wp2_with fail
        refine (devPending_of (D6.out.of (i := 0) rfl)).mono ?_
        rintro e w7 ⟨rfl, b7⟩
        have D7 := Lib.hid (D6.out.kept b7)
        have SA := Lib.hid (D7.out.bs_ 1 rfl)
        have SB := Lib.hid (D7.out.bs_ 0 rfl)
        clear b7 D6
        go_wp2_with fail
        refine (same_yes _ _ _ _ SA.out SB.out).mono ?_
        rintro e w8 ⟨rfl, b8⟩
        have B8 := Lib.hid (below_size (below_size B1.out D7.out.below) b8)
        clear b8 SA SB D7
        go_wp2
        go_ret
        exact ⟨rfl, B8.out⟩
    · have hd1 : decide ((j : Int) < (m.length : Int)) = false := by simp; omega
      go_wp2_with fail
      refine (devAll_s HD.out 0 rfl h8).mono ?_
      rintro e w6 ⟨vb, rfl, x6⟩
      have D6 := Lib.hid x6
      clear x6
      go_wp2_with fail
      refine (devPending_of (D6.out.of (i := 0) rfl)).mono ?_
      rintro e w7 ⟨rfl, b7⟩
      have D7 := Lib.hid (D6.out.kept b7)
      have SA := Lib.hid (D7.out.bs_ 1 rfl)
      have SB := Lib.hid (D7.out.bs_ 0 rfl)
      clear b7 D6
      go_wp2_with fail
      refine (same_yes _ _ _ _ SA.out SB.out).mono ?_
      rintro e w8 ⟨rfl, b8⟩
      have B8 := Lib.hid (below_size (below_size B1.out D7.out.below) b8)
      clear b8 SA SB D7
      go_wp2
      go_ret
      exact ⟨rfl, B8.out⟩
end Go.Proofs.Ytenmgpijhaalbaa
