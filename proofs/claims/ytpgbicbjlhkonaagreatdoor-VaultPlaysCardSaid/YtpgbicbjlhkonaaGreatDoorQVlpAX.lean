/-
  Texts that belong together, merged: VltSa, VltSb, VpU, VltOpen. Conditions: as each theorem names them.
-/
import Derived.Test.YtpgbicbjlhkonaaGreatDoorQVlpAW
import Derived.Test.YtpgbicbjlhkonaaGreatDoorQVlpAT
import Derived.Test.YtpgbicbjlhkonaaGreatDoorQVlpAA
import Derived.OpenShut
import Derived.ChangeArms
section
namespace Go.Proofs.YtpgbicbjlhkonaaGreatDoor
open Go.RowKit
set_option linter.unusedVariables false
set_option maxRecDepth 20000

theorem LogR.dev {w0 x y : World} {gl n g : Nat} (h : LogR w0 x gl n x) (t : Turns (fun k => k = g) x y) (hg : w0.heap.size ≤ g) (hne : g ≠ gl) : LogR w0 y gl n y :=
  LogR.new (t.below h.below h.below.size fun k hk => hk ▸ hg) (t.row h.row fun e => hne e.symm) h.far
section
variable {w0 w x : World} {R F : Nat → Prop} {gl nl g : Nat} {d : Dev}
set_option maxHeartbeats 4000000 in
theorem refSave_any (h : DV w R F g d x) (hp : d.pend.length ≤ 500000) (hRl : ¬ R gl) (hFl : F gl) (hgl : g ≠ gl) (hglw : gl < w.heap.size) (hg0 : w0.heap.size ≤ g) (at_ n : Int) (vb : Value) (b : List UInt8) (hb : Bs x vb b) (hL : LogR w0 x gl nl x) (hnl : nl ≤ 1000000) :
    Calls Tryz.prog 11 #[.pointer (some ⟨gl, 0, none⟩), .pointer (some ⟨g, 0, none⟩), .int .i64 at_, .int .i64 n, vb] x fun e y => ∃ nl', nl' ≤ nl + 3 ∧ e = .returned (.int .i64 (saveF hdV d at_ n b).1) ∧ DV w R F g (saveF hdV d at_ n b).2 y ∧ LogR w0 y gl nl' y := by
  have hWl : ¬ Wide R w x gl := fun e => e.elim hRl fun e => by omega
  have HR : Hid (Calls Tryz.prog 42 #[.pointer (some ⟨g, 0, none⟩), .int .i64 at_, .int .i64 n] x (RetV x (.int .i64 (rightV d.now.length at_ n)))) := by
    show Calls _ _ _ _ _
    obtain ⟨⟨a, hs, vs, vp, ss, ps, hd⟩, _⟩ := h
    have hm := hs.ok.most
    rw [← hs.len]
    exact refRight_any x _ g vs vp ss ps a hd at_ n (by rw [hs.len]; omega)
  have HB : Hid (∀ (A N : Nat) y, 1 ≤ N → N ≤ 200 → A + 2 * N + 2 ≤ d.now.length → Below x.heap.size x y → LogR w0 y gl nl y → Calls Tryz.prog 43 #[.pointer (some ⟨gl, 0, none⟩), .pointer (some ⟨g, 0, none⟩), .int .i64 (A : Int), .int .i64 (N : Int)] y fun e w' => ∃ v nl', nl' ≤ nl + 2 ∧ e = .returned (.tuple #[.int .i64 ((bestV d.now A N hdV).1 : Int), v, .int .u64 ((bestV d.now A N hdV).2.2 : Int)]) ∧ Bs w' v (bestV d.now A N hdV).2.1 ∧ LogR w0 y gl nl' w') := fun A N y h1 h2 h3 hby hLy => by
    obtain ⟨⟨a, hs, vs, vp, ss, ps, hd⟩, _⟩ := h
    exact refBest_any w0 y gl nl _ g vs vp ss ps a d (hd.kept hby) hs (by omega) hWl hgl A N h1 h2 h3 hLy (by omega)
  have HD := Lib.hid h
  have HL := Lib.hid hL
  have HV := Lib.hid hb
  have hmost : d.now.length ≤ 600 := by
    obtain ⟨⟨a, hs, _⟩, _⟩ := h
    exact hs.ok.most
  obtain ⟨bA, bc, rfl, hb1, hb2, hb3⟩ := hb
  have HVA := Lib.hid hb3
  unfold maxLen at hb2
  clear h hL hb3
  by_cases he : rightV d.now.length at_ n = 0
  · have HE : Hid (saveF hdV d at_ n b = saveR hdV d at_.toNat n.toNat b) := by show _ = _; unfold saveF; rw [if_pos he]
    rw [he] at HR
    obtain ⟨A, N, rfl, rfl, hN1, hN2, hlen⟩ := right_nats he
    simp only [Int.toNat_natCast] at HE
    have HS : Hid (saveR hdV d A N b = if 256 * N < b.length then (2, d) else if (bestV d.now A N hdV).2.2 = 18446744073709551615 then (63, d) else d.run (saveV A N (bestV d.now A N hdV).1 (bestV d.now A N hdV).2.2 b hdV)) := by show _ = _; rfl
    have hold := bestV_le d.now A N hdV
    have hq64 := bestV_u64 d.now A N hdV
    rw [HE.out]
    generalize hRR : saveR hdV d A N b = RR at HS ⊢
    have HB2 := Lib.hid (fun y => HB.out A N y hN1 hN2 hlen)
    generalize bestV d.now A N hdV = BV at HB2 HS hold hq64
    obtain ⟨old, bb, q⟩ := BV
    simp only at HB2 HS hold hq64
    have hw0 : IntKind.i64.wrap (256 * (N : Int)) = 256 * (N : Int) := IntWalk.i64_in _ (by omega)
    clear HE he HB hRR
    go_enter Tryz.func11, Tryz.ntmps11
    go_wp2_with fail
    refine HR.out.mono ?_
    rintro e w1 ⟨rfl, b1⟩
    have L1 := Lib.hid (HL.out.kept b1)
    have D1 := Lib.hid (HD.out.kept b1)
    have V1 := Lib.hid (HV.out.below b1)
    have B1 := Lib.hid b1
    clear b1 HR HL HD HV
    go_wp2_with fail
    refine (HB2.out w1 B1.out L1.out.self).mono ?_
    rintro e w2 ⟨v2, n2, hn2', rfl, s2, r2⟩
    have L2 : Hid (LogR w0 w2 gl n2 w2) := (L1.out.trans r2).self
    have V2 := Lib.hid (r2.bs V1.out)
    have D2 : Hid (DV w R F g d w2) := D1.out.turned r2.turn fun k hk => by subst hk; exact ⟨hRl, fun e => hgl e.symm, fun _ => hFl, fun h => by omega⟩
    obtain ⟨A2, c2, rfl, _, _, _⟩ := s2
    clear r2 HB2 L1 D1 V1 B1
    by_cases hbl : 256 * N < b.length
    · have hd1 : decide (256 * (N : Int) < (b.length : Int)) = true := by simp; omega
      rw [if_pos hbl] at HS
      go_wp2
      go_ret
      rw [HS.out]
      exact ⟨n2, by omega, rfl, D2.out, L2.out⟩
    have hd1 : decide (256 * (N : Int) < (b.length : Int)) = false := by simp; omega
    rw [if_neg hbl] at HS
    by_cases hqm : q = 18446744073709551615
    · have hd2 : decide ((q : Int) = 18446744073709551615) = true := by simp; omega
      rw [if_pos hqm] at HS
      go_wp2
      go_ret
      rw [HS.out]
      exact ⟨n2, by omega, rfl, D2.out, L2.out⟩
    have hd2 : decide ((q : Int) = 18446744073709551615) = false := by simp; omega
    have hd2b : ((q : Int) == 18446744073709551615) = false := by simp; omega
    rw [if_neg hqm] at HS
    obtain ⟨to, hto⟩ : ∃ to, to = 1 - old := ⟨_, rfl⟩
    have hw1 : IntKind.i64.wrap (1 - (old : Int)) = (to : Int) := by rw [IntWalk.i64_in _ (by omega)]; omega
    have HS2 : Hid (RR = d.run (phase (dataW (lowOf A N to) b) ++ (phase [(lowOf A N to, hdV (q + 1) b)] ++ phase (eraseW (lowOf A N old) N)))) := by
      show _ = _
      rw [HS.out, hto]
      rfl
    have HTO := Lib.hid hto
    clear HS hto
    go_wp2_with fail
    have hsn : (to : Int) * ((N : Int) + 1) = ((to * (N + 1) : Nat) : Int) := by push_cast; rfl
    obtain ⟨qq, hqq⟩ : ∃ qq, qq = to * (N + 1) := ⟨_, rfl⟩
    have hto1 : to ≤ 1 := by have := HTO.out; omega
    have hqq2 : qq ≤ N + 1 := by rw [hqq]; exact Nat.le_trans (Nat.mul_le_mul_right _ hto1) (by omega)
    have hlow : lowOf A N to = A + qq := by rw [hqq]; rfl
    rw [hlow] at HS2
    rw [← hqq] at hsn
    have hch : ∀ k, k < chunks b ↔ 256 * k < b.length := fun k => by unfold chunks; omega
    have hchN : chunks b ≤ N := by unfold chunks; omega
    have HCH := Lib.hid hch
    clear hlow hqq hch
    have w1 : IntKind.i64.wrap ((N : Int) + 1) = (N : Int) + 1 := IntWalk.i64_in _ (by omega)
    have w2' : IntKind.i64.wrap ((to : Int) * ((N : Int) + 1)) = (qq : Int) := by rw [hsn]; exact IntWalk.i64_in _ (by omega)
    have w3 : IntKind.i64.wrap ((A : Int) + (qq : Int)) = (A : Int) + (qq : Int) := IntWalk.i64_in _ (by omega)
    have w4 : IntKind.i64.wrap ((A : Int) + (qq : Int) + 1) = (A : Int) + (qq : Int) + 1 := IntWalk.i64_in _ (by omega)
    clear hsn
    go_loopw [16] (fun u wr => ∃ k : Nat, k ≤ chunks b ∧ u = .int .i64 (k : Int) ∧ Hid ((d.run (WD (A + qq) b k)).1 = 0) ∧ Hid (DV w R F g (d.run (WD (A + qq) b k)).2 wr) ∧ Hid (Turns (fun k => k = g) w2 wr) ∧ Hid (∀ u l, Bs w2 u l → Bs wr u l)) (fun u _ => chunks b + 1 - (intOf u).toNat)
    case atStart => exact ⟨0, by omega, rfl, rfl, D2.out, Turns.refl _ _, fun _ _ h => h⟩
    case round =>
      obtain ⟨k, hk, rfl, HE, HD, HT, HB⟩ := hrel
      clear D2
      have HP : Hid ((d.run (WD (A + qq) b k)).2.pend.length ≤ 500200) := by
        have h1 := d.run_pend (WD (A + qq) b k)
        rw [WD_len] at h1
        show _ ≤ _
        omega
      have w5 : IntKind.i64.wrap (256 * (k : Int)) = 256 * (k : Int) := IntWalk.i64_in _ (by omega)
      by_cases hlt : k < chunks b
      · have hlt2 : 256 * k < b.length := (HCH.out k).1 hlt
        have hd3 : decide (256 * (k : Int) < (b.length : Int)) = true := by simp; omega
        obtain ⟨bb, bo, rfl, _⟩ := HVA.out (by omega)
        have w6 : IntKind.i64.wrap (256 * (k : Int) + 256) = 256 * (k : Int) + 256 := IntWalk.i64_in _ (by omega)
        have w7 : IntKind.i64.wrap ((A : Int) + (qq : Int) + 1 + (k : Int)) = (A : Int) + (qq : Int) + 1 + (k : Int) := IntWalk.i64_in _ (by omega)
        have w8 : IntKind.i64.wrap ((k : Int) + 1) = (k : Int) + 1 := IntWalk.i64_in _ (by omega)
        have hi2 : (A : Int) + (qq : Int) + 1 + (k : Int) = ((A + qq + 1 + k : Nat) : Int) := by push_cast; rfl
        have HS : Hid (d.run (WD (A + qq) b (k + 1)) = ((d.run (WD (A + qq) b k)).2.writeE ((A : Int) + (qq : Int) + 1 + (k : Int)) (chunk b k), (d.run (WD (A + qq) b k)).2.write ((A : Int) + (qq : Int) + 1 + (k : Int)) (chunk b k))) := by
          show _ = _
          rw [WD_succ, Dev.run_snoc _ HE.out, hi2]
          rfl
        clear hi2
        have hbc : ¬ (bc = 256 * k) := by omega
        have HC := Lib.hid (chunk_bs (HB.out _ _ V2.out) k hlt2)
        have HWx := Lib.hid (fun vb hv => HD.out.write (by have := HP.out; omega) ((A : Int) + (qq : Int) + 1 + (k : Int)) vb (chunk b k) hv)
        generalize (d.run (WD (A + qq) b k)).2 = dk at HS HWx HP HD
        generalize dk.writeE ((A : Int) + (qq : Int) + 1 + (k : Int)) (chunk b k) = ew at HS HWx
        generalize dk.write ((A : Int) + (qq : Int) + 1 + (k : Int)) (chunk b k) = dw at HS HWx
        clear HD HP HE
        by_cases hm : 256 * k + 256 ≤ b.length
        · have hm1 : 256 * (k : Int) + 256 ≤ (b.length : Int) := by omega
          have hm2 : (256 * (k : Int) + 256).toNat = 256 * k + 256 := by omega
          have hm4 : 256 * k + 256 - 256 * k = 256 := by omega
          have hm5 : ¬ (256 * (k : Int) + 256 < 256 * (k : Int)) := by omega
          have hm6 : 256 * k + 256 ≤ bc := by omega
          rw [Nat.min_eq_left hm, hm4] at HC
          have HW := Lib.hid (HWx.out _ HC.out)
          clear HWx HC
          go_wp2_with fail
          refine HW.out.mono ?_
          rintro e w6 ⟨rfl, d6, t6, b6⟩
          have D6 := Lib.hid d6
          have T6 := Lib.hid (HT.out.same t6)
          have B6 : Hid (∀ u l, Bs w2 u l → Bs w6 u l) := fun u l h => b6 u l (HB.out u l h)
          clear d6 t6 b6 HT HB HW
          by_cases he : ew = 0
          · have hd4 : decide (ew = 0) = true := decide_eq_true he
            go_wp2_with fail
            have hE2 : Hid ((d.run (WD (A + qq) b (k + 1))).1 = 0) := by show _ = _; rw [HS.out]; exact he
            have hD2 : Hid (DV w R F g (d.run (WD (A + qq) b (k + 1))).2 w6) := by show DV _ _ _ _ _ _; rw [HS.out]; exact D6.out
            go_roundw
            case rel => exact ⟨k + 1, by omega, by go_num, hE2, hD2, T6.out, B6.out⟩
            case measure => simp [intOf]; omega
          · have hd4 : decide (ew = 0) = false := decide_eq_false he
            have HF2 : Hid (RR = (ew, dw)) := by
              show _ = _
              rw [HS2.out, save_stop1 hlt (by rw [HS.out]; exact he)]
              exact HS.out
            go_wp2
            go_ret
            rw [HF2.out]
            exact ⟨n2, by omega, rfl, D6.out, L2.out.dev T6.out hg0 hgl⟩
        · have hm1 : ¬ (256 * (k : Int) + 256 ≤ (b.length : Int)) := by omega
          have hm3 : (b.length : Int) < 256 * (k : Int) + 256 := by omega
          have hm5 : ¬ ((b.length : Int) < 256 * (k : Int)) := by omega
          rw [Nat.min_eq_right (by omega)] at HC
          have HW := Lib.hid (HWx.out _ HC.out)
          clear HWx HC
          go_wp2_with fail
          refine HW.out.mono ?_
          rintro e w6 ⟨rfl, d6, t6, b6⟩
          have D6 := Lib.hid d6
          have T6 := Lib.hid (HT.out.same t6)
          have B6 : Hid (∀ u l, Bs w2 u l → Bs w6 u l) := fun u l h => b6 u l (HB.out u l h)
          clear d6 t6 b6 HT HB HW
          by_cases he : ew = 0
          · have hd4 : decide (ew = 0) = true := decide_eq_true he
            go_wp2_with fail
            have hE2 : Hid ((d.run (WD (A + qq) b (k + 1))).1 = 0) := by show _ = _; rw [HS.out]; exact he
            have hD2 : Hid (DV w R F g (d.run (WD (A + qq) b (k + 1))).2 w6) := by show DV _ _ _ _ _ _; rw [HS.out]; exact D6.out
            go_roundw
            case rel => exact ⟨k + 1, by omega, by go_num, hE2, hD2, T6.out, B6.out⟩
            case measure => simp [intOf]; omega
          · have hd4 : decide (ew = 0) = false := decide_eq_false he
            have HF2 : Hid (RR = (ew, dw)) := by
              show _ = _
              rw [HS2.out, save_stop1 hlt (by rw [HS.out]; exact he)]
              exact HS.out
            go_wp2
            go_ret
            rw [HF2.out]
            exact ⟨n2, by omega, rfl, D6.out, L2.out.dev T6.out hg0 hgl⟩
      · obtain rfl : k = chunks b := by omega
        have hlt2 : ¬ (256 * chunks b < b.length) := fun h => hlt ((HCH.out _).2 h)
        have hd3 : decide (256 * (chunks b : Int) < (b.length : Int)) = false := by simp; omega
        have HX1 : Hid (RR = (d.run (WD (A + qq) b (chunks b))).2.run (.sync :: (phase [(A + qq, hdV (q + 1) b)] ++ phase (eraseW (lowOf A N old) N)))) := by
          show _ = _
          rw [HS2.out, save_sync1 _ HE.out]
        have HW := Lib.hid (HD.out.sync (by have := HP.out; omega))
        generalize (d.run (WD (A + qq) b (chunks b))).2 = dk at HX1 HW HP HD
        generalize hcb : chunks b = cb at hd3 w5 hlt2
        clear HD HE HS2 hcb hlt2
        go_wp2_with fail
        refine HW.out.mono ?_
        rintro e w6 ⟨rfl, d6, t6, b6⟩
        have D6 := Lib.hid d6
        have T6 := Lib.hid (HT.out.same t6)
        have V6 := Lib.hid (b6 _ _ (HB.out _ _ V2.out))
        have L6 := Lib.hid (L2.out.dev T6.out hg0 hgl)
        have HP6 : Hid (dk.sync.pend.length ≤ 500300) := by have h1 := dk.act_pend .sync; have h2 := HP.out; show _ ≤ _; exact Nat.le_trans h1 (by omega)
        clear d6 t6 b6 HT HB HW L2 V2 T6 HP
        by_cases he1 : dk.syncE = 0
        · have HX2 : Hid (RR = dk.sync.run (.write (A + qq) (hdV (q + 1) b) :: .sync :: phase (eraseW (lowOf A N old) N))) := by
            show _ = _
            rw [HX1.out, Dev.run_ok _ (by exact he1)]
            rfl
          have hd4 : decide (dk.syncE = 0) = true := decide_eq_true he1
          generalize dk.sync = d2 at HX2 D6 HP6
          generalize dk.syncE = e1 at hd4 he1
          subst he1
          clear HX1 hd4
          have hwq : IntKind.u64.wrap ((q : Int) + 1) = (q : Int) + 1 := by rw [IntKind.wrap_u64]; omega
          have HHd : Hid (Calls Tryz.prog 21 #[.pointer (some ⟨gl, 0, none⟩), .int .u64 ((q : Int) + 1), .slice bA b.length bc] w6 fun e w' => ∃ v, e = .returned v ∧ OwnB w' w6.heap.size 5 v (hdV (q + 1) b) ∧ LogR w0 w6 gl (n2 + 1) w') := by
            have := refHead_any w0 w6 gl n2 (q + 1) (by omega) _ b V6.out (by omega) L6.out (by omega)
            have e : (((q + 1 : Nat)) : Int) = (q : Int) + 1 := by push_cast; rfl
            rw [e] at this
            exact this
          go_wp2_with fail
          refine HHd.out.mono ?_
          rintro e w7 ⟨v7, rfl, o7, r7⟩
          have L7 : Hid (LogR w0 w7 gl (n2 + 1) w7) := (L6.out.trans r7).self
          have D7 : Hid (DV w R F g d2 w7) := D6.out.turned r7.turn fun k hk => by subst hk; exact ⟨hRl, fun e => hgl e.symm, fun _ => hFl, fun h => by omega⟩
          have S7 := Lib.hid o7.bs
          obtain ⟨A7, c7, rfl, _, _⟩ := o7.shape
          have hi2 : (A : Int) + (qq : Int) = ((A + qq : Nat) : Int) := by push_cast; rfl
          have HX2' : Hid (∀ h0 : d2.writeE ((A : Int) + (qq : Int)) (hdV (q + 1) b) = 0, RR = (d2.write ((A : Int) + (qq : Int)) (hdV (q + 1) b)).run (.sync :: phase (eraseW (lowOf A N old) N))) := fun h0 => by
            rw [hi2] at h0 ⊢
            rw [HX2.out, Dev.run_ok _ (by exact h0)]
            rfl
          have HX2e : Hid (∀ h0 : d2.writeE ((A : Int) + (qq : Int)) (hdV (q + 1) b) ≠ 0, RR = (d2.writeE ((A : Int) + (qq : Int)) (hdV (q + 1) b), d2.write ((A : Int) + (qq : Int)) (hdV (q + 1) b))) := fun h0 => by
            rw [hi2] at h0 ⊢
            rw [HX2.out, Dev.run_err _ (by exact h0)]
            rfl
          have HW := Lib.hid (D7.out.write (by have := HP6.out; omega) ((A : Int) + (qq : Int)) _ _ S7.out)
          have HP7 : Hid ((d2.write ((A : Int) + (qq : Int)) (hdV (q + 1) b)).pend.length ≤ 500400) := by
            have h1 := d2.act_pend (.write (A + qq) (hdV (q + 1) b)); have h2 := HP6.out; show _ ≤ _; rw [hi2]; exact Nat.le_trans h1 (by omega)
          clear o7 r7 HHd L6 D6 hi2 HX2 V6 HP6 S7 D7
          generalize d2.writeE ((A : Int) + (qq : Int)) (hdV (q + 1) b) = e2 at HX2' HX2e HW
          generalize d2.write ((A : Int) + (qq : Int)) (hdV (q + 1) b) = d3 at HX2' HX2e HW HP7
          go_wp2_with fail
          refine HW.out.mono ?_
          rintro e w8 ⟨rfl, d8, t8, b8⟩
          have D8 := Lib.hid d8
          have L8 := Lib.hid (L7.out.dev t8 hg0 hgl)
          clear d8 t8 b8 HW L7
          by_cases he2 : e2 = 0
          · have HX3 := Lib.hid (HX2'.out he2)
            subst he2
            have HW := Lib.hid (D8.out.sync (by have := HP7.out; omega))
            clear HX2' HX2e
            go_wp2_with fail
            refine HW.out.mono ?_
            rintro e w9 ⟨rfl, d9, t9, b9⟩
            have D9 := Lib.hid d9
            have L9 := Lib.hid (L8.out.dev t9 hg0 hgl)
            have HP9 : Hid (d3.sync.pend.length ≤ 500500) := by have h1 := d3.act_pend .sync; have h2 := HP7.out; show _ ≤ _; exact Nat.le_trans h1 (by omega)
            clear d9 t9 b9 HW L8 D8 HP7
            by_cases he3 : d3.syncE = 0
            · have HX4 : Hid (RR = d3.sync.run (phase (eraseW (lowOf A N old) N))) := by
                show _ = _
                rw [HX3.out, Dev.run_ok _ (by exact he3)]
                rfl
              have hd4 : decide (d3.syncE = 0) = true := decide_eq_true he3
              generalize d3.sync = d4 at HX4 D9 HP9
              generalize d3.syncE = e3 at hd4 he3
              subst he3
              have HW := Lib.hid (refErase_any D9.out (by have := HP9.out; omega) A N old hN2 hold (by omega))
              rw [← HX4.out] at HW
              clear HX3 hd4 D9
              go_wp2_with fail
              refine HW.out.mono ?_
              rintro e w10 ⟨rfl, d10, t10, b10⟩
              have D10 := Lib.hid d10
              have L10 := Lib.hid (L9.out.dev t10 hg0 hgl)
              clear d10 t10 b10 HW L9
              go_wp2
              go_ret
              exact ⟨n2 + 1, by omega, rfl, D10.out, L10.out⟩
            · have HX4 : Hid (RR = (d3.syncE, d3.sync)) := by
                show _ = _
                rw [HX3.out, Dev.run_err _ (by exact he3)]
                rfl
              have hd4 : decide (d3.syncE = 0) = false := decide_eq_false he3
              go_wp2
              go_ret
              rw [HX4.out]
              exact ⟨n2 + 1, by omega, rfl, D9.out, L9.out⟩
          · have HX3 := Lib.hid (HX2e.out he2)
            have hd4 : decide (e2 = 0) = false := decide_eq_false he2
            go_wp2
            go_ret
            rw [HX3.out]
            exact ⟨n2 + 1, by omega, rfl, D8.out, L8.out⟩
        · have HX2 : Hid (RR = (dk.syncE, dk.sync)) := by
            show _ = _
            rw [HX1.out, Dev.run_err _ (by exact he1)]
            rfl
          have hd4 : decide (dk.syncE = 0) = false := decide_eq_false he1
          go_wp2
          go_ret
          rw [HX2.out]
          exact ⟨n2, by omega, rfl, D6.out, L6.out⟩
  · have HE : Hid (saveF hdV d at_ n b = (rightV d.now.length at_ n, d)) := by show _ = _; unfold saveF; rw [if_neg he]
    generalize rightV d.now.length at_ n = e at he HR HE
    have hd : decide (e = 0) = false := by simp [he]
    rw [HE.out]
    clear HE HB
    go_enter Tryz.func11, Tryz.ntmps11
    go_wp2_with fail
    refine HR.out.mono ?_
    rintro e w1 ⟨rfl, b1⟩
    have L1 := Lib.hid (HL.out.kept b1)
    have D1 := Lib.hid (HD.out.kept b1)
    clear b1 HR HL HD
    go_wp2
    go_ret
    exact ⟨nl, by omega, rfl, D1.out, L1.out.self⟩
end
end Go.Proofs.YtpgbicbjlhkonaaGreatDoor
end
section
namespace Go.Proofs.YtpgbicbjlhkonaaGreatDoor
open Go.RowKit
set_option linter.unusedVariables false
set_option maxRecDepth 20000

section
variable {hd : Nat → List UInt8 → List UInt8} {d : Dev} {at_ n : Int}
end
section
variable {w0 w x : World} {R F : Nat → Prop} {gl nl g : Nat} {d : Dev}
set_option maxHeartbeats 4000000 in
theorem refRecover_any (h : DV w R F g d x) (hp : d.pend.length ≤ 500000) (hRl : ¬ R gl) (hFl : F gl) (hgl : g ≠ gl) (hglw : gl < w.heap.size) (hg0 : w0.heap.size ≤ g) (at_ n : Int) (hL : LogR w0 x gl nl x) (hnl : nl ≤ 900000) :
    Calls Tryz.prog 17 #[.pointer (some ⟨gl, 0, none⟩), .pointer (some ⟨g, 0, none⟩), .int .i64 at_, .int .i64 n] x fun e y => ∃ v nl', nl' ≤ nl + 4 ∧ e = .returned (.tuple #[v, .int .u64 ((recF hdV d at_ n).1.2.1 : Int), .int .i64 (recF hdV d at_ n).1.2.2]) ∧ Bs y v (recF hdV d at_ n).1.1 ∧ DV w R F g (recF hdV d at_ n).2 y ∧ LogR w0 y gl nl' y := by
  have hWl : ∀ y, ¬ Wide R w y gl := fun y e => e.elim hRl fun e => by omega
  have HLd : Hid (Calls Tryz.prog 23 #[.pointer (some ⟨gl, 0, none⟩), .pointer (some ⟨g, 0, none⟩), .int .i64 at_, .int .i64 n] x fun e w' => ∃ v nl', nl' ≤ nl + 2 ∧ e = .returned (.tuple #[v, .int .u64 ((loadF hdV d at_ n).2.1 : Int), .int .i64 (loadF hdV d at_ n).2.2]) ∧ Bs w' v (loadF hdV d at_ n).1 ∧ LogR w0 x gl nl' w') := by
    obtain ⟨⟨a, hs, vs, vp, ss, ps, hd⟩, _⟩ := h
    exact refLoad_any w0 x gl nl _ g vs vp ss ps a d hd hs (by omega) (hWl x) hgl at_ n hL (by omega)
  have HB : Hid (∀ (A N m : Nat) y, 1 ≤ N → N ≤ 200 → A + 2 * N + 2 ≤ d.now.length → DV w R F g d y → LogR w0 y gl m y → m ≤ 10000000 → Calls Tryz.prog 43 #[.pointer (some ⟨gl, 0, none⟩), .pointer (some ⟨g, 0, none⟩), .int .i64 (A : Int), .int .i64 (N : Int)] y fun e w' => ∃ v nl', nl' ≤ m + 2 ∧ e = .returned (.tuple #[.int .i64 ((bestV d.now A N hdV).1 : Int), v, .int .u64 ((bestV d.now A N hdV).2.2 : Int)]) ∧ Bs w' v (bestV d.now A N hdV).2.1 ∧ LogR w0 y gl nl' w') := fun A N m y h1 h2 h3 hdy hLy hm => by
    obtain ⟨⟨a, hs, vs, vp, ss, ps, hd⟩, _⟩ := hdy
    exact refBest_any w0 y gl m _ g vs vp ss ps a d hd hs (by omega) (hWl y) hgl A N h1 h2 h3 hLy hm
  have HCl : Hid (∀ (A N s : Nat) y, N ≤ 200 → s ≤ 1 → A + 2 * N + 2 ≤ d.now.length → DV w R F g d y → Calls Tryz.prog 49 #[.pointer (some ⟨g, 0, none⟩), .int .i64 (A : Int), .int .i64 (N : Int), .int .i64 (s : Int)] y (RetV y (.bool (cleanV d.now (lowOf A N s) N)))) := fun A N s y h2 h1 h3 hdy => by
    obtain ⟨⟨a, hs, vs, vp, ss, ps, hd⟩, _⟩ := hdy
    exact refClean_any y _ g vs vp ss ps a d hd hs (by omega) A N s h2 h1 h3
  have HD := Lib.hid h
  have hmost : d.now.length ≤ 600 := by
    obtain ⟨⟨a, hs, _⟩, _⟩ := h
    exact hs.ok.most
  clear h hL
  have hturn : ∀ y z m, DV w R F g d y → LogR w0 y gl m z → DV w R F g d z := fun y z m h r => h.turned r.turn fun k hk => by subst hk; exact ⟨hRl, fun e => hgl e.symm, fun _ => hFl, fun h => by omega⟩
  have HT := Lib.hid hturn
  clear hturn
  by_cases he : (loadF hdV d at_ n).2.2 = 0
  · obtain ⟨hr, hl, hrec⟩ := rec_load2 he
    obtain ⟨A, N, rfl, rfl, hN1, hN2, hlen⟩ := right_nats hr
    simp only [Int.toNat_natCast] at hl hrec
    rw [hl] at HLd
    have HRec : Hid (recF hdV d (A : Int) (N : Int) = _) := hrec
    have hs1 := bestV_le d.now A N hdV
    have HB2 := Lib.hid (fun m y => HB.out A N m y hN1 hN2 hlen)
    clear hl hrec he hr HB
    generalize recF hdV d (A : Int) (N : Int) = RF at HRec ⊢
    generalize bestV d.now A N hdV = BV at HB2 HRec HLd hs1
    obtain ⟨s, b, q⟩ := BV
    simp only at HB2 HRec HLd hs1
    obtain ⟨to, hto⟩ : ∃ to, to = 1 - s := ⟨_, rfl⟩
    have hw1 : IntKind.i64.wrap (1 - (s : Int)) = (to : Int) := by rw [IntWalk.i64_in _ (by omega)]; omega
    have hto1 : to ≤ 1 := by omega
    have HC2 := Lib.hid (fun y => HCl.out A N to y hN2 hto1 hlen)
    have HV : Hid (recV d.now A N s = if cleanV d.now (lowOf A N to) N then [] else phase (eraseW (lowOf A N to) N)) := by show _ = _; rw [hto]; rfl
    generalize recV d.now A N s = l at HV HRec
    generalize cleanV d.now (lowOf A N to) N = cl at HV HC2
    clear hto HCl
    cases cl
    · have HV2 : Hid (l = phase (eraseW (lowOf A N to) N)) := HV.out
      clear HV
      go_enter Tryz.func17, Tryz.ntmps17
      go_wp2_with fail
      refine HLd.out.mono ?_
      rintro e w1 ⟨v1, n1, hn1, rfl, s1, r1⟩
      have L1 : Hid (LogR w0 w1 gl n1 w1) := r1.self
      have D1 := Lib.hid (HT.out _ _ _ HD.out r1)
      have S1 := Lib.hid s1
      obtain ⟨A1, c1, rfl, _, _, _⟩ := s1
      clear r1 HD HLd
      go_wp2_with fail
      refine (HB2.out n1 w1 D1.out L1.out (by omega)).mono ?_
      rintro e w2 ⟨v2, n2, hn2, rfl, s2, r2⟩
      have L2 : Hid (LogR w0 w2 gl n2 w2) := r2.self
      have D2 := Lib.hid (HT.out _ _ _ D1.out r2)
      have S2 := Lib.hid (r2.bs S1.out)
      obtain ⟨A2, c2, rfl, _, _, _⟩ := s2
      clear r2 D1 HB2 L1 S1
      go_wp2_with fail
      refine (HC2.out w2 D2.out).mono ?_
      rintro e w3 ⟨rfl, b3⟩
      have L3 : Hid (LogR w0 w3 gl n2 w3) := (L2.out.kept b3).self
      have D3 := Lib.hid (D2.out.kept b3)
      have S3 := Lib.hid (S2.out.below b3)
      clear b3 D2 HC2 L2 S2
      have HW := Lib.hid (refErase_any D3.out (by omega) A N to hN2 hto1 (by omega))
      rw [← HV2.out] at HW
      go_wp2_with fail
      refine HW.out.mono ?_
      rintro e w4 ⟨rfl, d4, t4, b4⟩
      have D4 := Lib.hid d4
      have L4 := Lib.hid (L3.out.dev t4 hg0 hgl)
      have S4 := Lib.hid (b4 _ _ S3.out)
      clear d4 t4 b4 HW D3 L3 S3
      by_cases he : (d.run l).1 = 0
      · have hd4 : decide ((d.run l).1 = 0) = true := decide_eq_true he
        have HR2 : Hid (RF = ((b, q, 0), (d.run l).2)) := by show _ = _; rw [HRec.out, if_pos he]
        go_wp2
        try simp only [Exit.inBlock, Exit.then]
        refine bodyPost_ret (results_tmp3 rfl _ _ _) rfl ?_
        rw [HR2.out]
        exact ⟨_, n2, by omega, rfl, S4.out, D4.out, L4.out⟩
      · have hd4 : decide ((d.run l).1 = 0) = false := decide_eq_false he
        have HR2 : Hid (RF = (([], 0, (d.run l).1), (d.run l).2)) := by show _ = _; rw [HRec.out, if_neg he]
        go_wp2
        try simp only [Exit.inBlock, Exit.then]
        refine bodyPost_ret (results_tmp3 rfl _ _ _) rfl ?_
        rw [HR2.out]
        exact ⟨_, n2, by omega, rfl, Bs.nil _, D4.out, L4.out⟩
    · have HV2 : Hid (l = []) := HV.out
      have HR2 : Hid (RF = ((b, q, 0), d)) := by
        show _ = _
        rw [HRec.out, HV2.out]
        rfl
      clear HV HRec
      go_enter Tryz.func17, Tryz.ntmps17
      go_wp2_with fail
      refine HLd.out.mono ?_
      rintro e w1 ⟨v1, n1, hn1, rfl, s1, r1⟩
      have L1 : Hid (LogR w0 w1 gl n1 w1) := r1.self
      have D1 := Lib.hid (HT.out _ _ _ HD.out r1)
      have S1 := Lib.hid s1
      obtain ⟨A1, c1, rfl, _, _, _⟩ := s1
      clear r1 HD HLd
      go_wp2_with fail
      refine (HB2.out n1 w1 D1.out L1.out (by omega)).mono ?_
      rintro e w2 ⟨v2, n2, hn2, rfl, s2, r2⟩
      have L2 : Hid (LogR w0 w2 gl n2 w2) := r2.self
      have D2 := Lib.hid (HT.out _ _ _ D1.out r2)
      have S2 := Lib.hid (r2.bs S1.out)
      obtain ⟨A2, c2, rfl, _, _, _⟩ := s2
      clear r2 D1 HB2 L1 S1
      go_wp2_with fail
      refine (HC2.out w2 D2.out).mono ?_
      rintro e w3 ⟨rfl, b3⟩
      have L3 : Hid (LogR w0 w3 gl n2 w3) := (L2.out.kept b3).self
      have D3 := Lib.hid (D2.out.kept b3)
      have S3 := Lib.hid (S2.out.below b3)
      clear b3 D2 HC2 L2 S2
      go_wp2
      try simp only [Exit.inBlock, Exit.then]
      refine bodyPost_ret (results_tmp3 rfl _ _ _) rfl ?_
      rw [HR2.out]
      exact ⟨_, n2, by omega, rfl, S3.out, D3.out, L3.out⟩
  · have HR2 : Hid (recF hdV d at_ n = (([], 0, (loadF hdV d at_ n).2.2), d)) := rec_load1 he
    rw [HR2.out]
    generalize loadF hdV d at_ n = LF at he HLd ⊢
    obtain ⟨b, q, e⟩ := LF
    simp only at he HLd ⊢
    have hd : decide (e = 0) = false := decide_eq_false he
    clear HR2 HB HCl
    go_enter Tryz.func17, Tryz.ntmps17
    go_wp2_with fail
    refine HLd.out.mono ?_
    rintro e w1 ⟨v1, n1, hn1, rfl, s1, r1⟩
    have L1 : Hid (LogR w0 w1 gl n1 w1) := r1.self
    have D1 := Lib.hid (HT.out _ _ _ HD.out r1)
    obtain ⟨A1, c1, rfl, _, _, _⟩ := s1
    clear r1 HD HLd
    go_wp2
    try simp only [Exit.inBlock, Exit.then]
    refine bodyPost_ret (results_tmp3 rfl _ _ _) rfl ?_
    exact ⟨_, n1, by omega, rfl, Bs.nil _, D1.out, L1.out⟩
end
end Go.Proofs.YtpgbicbjlhkonaaGreatDoor
end
section
namespace Go.Proofs.YtpgbicbjlhkonaaGreatDoor
open Go.RowKit
set_option linter.unusedVariables false
set_option maxRecDepth 20000

/-- Bytes of typed rows stay, and rows of other types. -/
structure Kb (y z : World) : Prop where
  bs : ∀ v l, Bs y v l → U8At y v → Bs z v l ∧ U8At z v
  row : ∀ k t c, RowAt y k t c → ¬ VTy t → t ≠ 36 → t ≠ 68 → RowAt z k t c
section
variable {x y z : World}
theorem Kb.of_lk (h : Lk y z) : Kb y z := ⟨fun v l hb hu => ⟨h.bs hb hu, h.u8 hu⟩, fun k t c hr h1 _ _ => h.row hr h1⟩
theorem Kb.of_below (h : Below y.heap.size y z) : Kb y z := Kb.of_lk (Lk.of_below h)
theorem Kb.of_turns {G : Nat → Prop} (t : Turns G y z) (hG : ∀ k, G k → ∃ e c, RowAt y k e c ∧ e ≠ 5 ∧ (e = 36 ∨ e = 68)) : Kb y z := by
  refine ⟨fun v l hb hu => ?_, fun k e c hr _ h1 h2 => t.row hr fun hg => ?_⟩
  · have hn : ∀ k, v.ownBlock = some k → ¬ G k := fun k hk hg => by
      obtain ⟨c, hr⟩ := hu k hk
      obtain ⟨e, c', hr', he, _⟩ := hG k hg
      exact he (row_typed hr' hr)
    exact ⟨t.bs hb hn, fun k hk => (hu k hk).imp fun c hr => t.row hr (hn k hk)⟩
  · obtain ⟨e', c', hr', _, he⟩ := hG k hg
    have h3 := row_typed hr' hr
    subst h3
    exact he.elim h1 h2
end
section
variable {P G : Nat → Prop} {gm n g : Nat} {d : Dev} {y z : World}
theorem PV.turned (h : PV P gm n g d y) (t : Turns G y z) (hG : ∀ k, P k → ¬ G k) (h1 : ¬ G 1) (h2 : ¬ G 0) : PV P gm n g d z := by
  obtain ⟨⟨gn, cn, gs, cs, vp, h, hF⟩, hm, hmF, hty, htab, htabF⟩ := h
  refine ⟨⟨gn, cn, gs, cs, vp, h.turned t fun k hk => hG k (hF k hk), hF⟩, t.row hm (hG gm hmF), hmF, fun k hk => ?_, htab.turned t h1 h2, htabF⟩
  obtain ⟨t', c, hr, ht⟩ := hty k hk
  exact ⟨t', c, t.row hr (hG k hk), ht⟩
theorem PV.lt (h : PV P gm n g d y) {k : Nat} (hk : P k) : k < y.heap.size := by
  obtain ⟨t, c, hr, _⟩ := h.ty k hk
  exact hr.lt
end
structure BthI (b0 : World) (gm gd gr gl N nl : Nat) (dp dr : Dev) (P R : Nat → Prop) (y : World) : Prop where
  prog : ∃ n, n ≤ N ∧ PV P gm n gd dp y
  pfar : ∀ k, P k → b0.heap.size ≤ k
  doc : ∃ a, Sim dr a ∧ DocIn y R gr a
  rfar : ∀ k, R k → b0.heap.size ≤ k ∧ k < y.heap.size
  apart : ∀ k, R k → ¬ P k
  log : LogR b0 y gl nl y
  lr : ¬ R gl
  gfar : b0.heap.size ≤ gr
  ne : gr ≠ gl
  tab : 1 < b0.heap.size ∧ 0 < b0.heap.size
/-- Both sides since b0. -/
def Bth (b0 : World) (gm gd gr gl N nl : Nat) (dp dr : Dev) (y : World) : Prop := ∃ P R, BthI b0 gm gd gr gl N nl dp dr P R y
section
variable {b0 y z : World} {gm gd gr gl N N' nl nl' : Nat} {dp dp' dr dr' : Dev} {P R : Nat → Prop}
theorem not_log : ¬ VTy 36 := by unfold VTy; decide
theorem not_doc : ¬ VTy 68 := by unfold VTy; decide
theorem BthI.lp (h : BthI b0 gm gd gr gl N nl dp dr P R y) : ¬ P gl := fun hp => by
  obtain ⟨n, _, hv⟩ := h.prog
  exact TyF.not_row h.log.row not_log (hv.ty _ hp)
theorem BthI.gp (h : BthI b0 gm gd gr gl N nl dp dr P R y) : ¬ P gr := fun hp => by
  obtain ⟨n, _, hv⟩ := h.prog
  obtain ⟨a, _, vs, vp, ss, ps, hd⟩ := h.doc
  exact TyF.not_row hd.row not_doc (hv.ty _ hp)
theorem BthI.vs (h : BthI b0 gm gd gr gl N nl dp dr P R y) : VS P y gm gd N dp y := by
  obtain ⟨n, hn, hv⟩ := h.prog
  exact ⟨P, n, hn, hv, Turns.refl _ _, fun k hk => .inl hk⟩
theorem BthI.below (h : BthI b0 gm gd gr gl N nl dp dr P R y) : Below b0.heap.size b0 y := h.log.below
/-- The program's call. -/
theorem BthI.progStep (h : BthI b0 gm gd gr gl N nl dp dr P R y) (v : VS P y gm gd N' dp' z) : Bth b0 gm gd gr gl N' nl dp' dr z := by
  obtain ⟨F', n, hn, hv, t, hF⟩ := v
  obtain ⟨a, hs, hd⟩ := h.doc
  have hsz := h.below.size
  have htz := t.size
  have hgl := h.log.glt
  have hgr := hd.lt
  refine ⟨F', R, ⟨n, hn, hv⟩, fun k hk => (hF k hk).elim (h.pfar k) fun h1 => by omega, ⟨a, hs, hd.turned t h.apart h.gp⟩, fun k hk => by have := h.rfar k hk; omega, fun k hk hf => ?_, LogR.new (t.below h.below hsz h.pfar) (t.row h.log.row h.lp) h.log.far, h.lr, h.gfar, h.ne, h.tab⟩
  rcases hF k hf with h1 | h1
  · exact h.apart k hk h1
  · have := (h.rfar k hk).2; omega
/-- The document's call. -/
theorem BthI.docStep (h : BthI b0 gm gd gr gl N nl dp dr P R y) (t : Turns (fun k => k = gr ∨ k = gl) y z) (hd : ∃ a, Sim dr' a ∧ DocIn z (Wide R y z) gr a) (hl : RowAt z gl 36 (logC nl')) : Bth b0 gm gd gr gl N nl' dp dr' z ∧ Kb y z := by
  obtain ⟨n, hn, hv⟩ := h.prog
  have hsz := h.below.size
  have htz := t.size
  have hgl := h.log.glt
  have hfar := h.log.far
  have hgf := h.gfar
  have htab := h.tab
  obtain ⟨a0, _, vs, vp, ss, ps, hd0⟩ := h.doc
  refine ⟨⟨P, Wide R y z, ⟨n, hn, hv.turned t (fun k hk hg => ?_) (fun hg => by omega) (fun hg => by omega)⟩, h.pfar, hd, fun k hk => ?_, fun k hk hp => ?_, LogR.new (t.below h.below hsz fun k hk => by omega) hl hfar, fun hw => ?_, hgf, h.ne, htab⟩, Kb.of_turns t fun k hk => ?_⟩
  · rcases hg with rfl | rfl
    · exact h.gp hk
    · exact h.lp hk
  · rcases hk with hk | hk
    · have := h.rfar k hk; omega
    · omega
  · rcases hk with hk | hk
    · exact h.apart k hk hp
    · have := hv.lt hp; omega
  · rcases hw with hw | hw
    · exact h.lr hw
    · omega
  · rcases hk with rfl | rfl
    · exact ⟨_, _, hd0.row, by decide, .inr rfl⟩
    · exact ⟨_, _, h.log.row, by decide, .inl rfl⟩
theorem Bth.kept (h : Bth b0 gm gd gr gl N nl dp dr y) (hb : Below y.heap.size y z) : Bth b0 gm gd gr gl N nl dp dr z := by
  obtain ⟨P, R, h⟩ := h
  exact h.progStep (h.vs.kept hb)
theorem Bth.more (h : Bth b0 gm gd gr gl N nl dp dr y) (h1 : N ≤ N') (h2 : nl ≤ nl') (hh : nl = nl') : Bth b0 gm gd gr gl N' nl' dp dr y := by
  subst hh
  obtain ⟨P, R, h⟩ := h
  exact h.progStep (h.vs.more h1)
theorem Bth.below (h : Bth b0 gm gd gr gl N nl dp dr y) : Below b0.heap.size b0 y := by
  obtain ⟨P, R, h⟩ := h
  exact h.below
theorem Bth.ok (h : Bth b0 gm gd gr gl N nl dp dr y) : dp.Ok := by
  obtain ⟨P, R, h⟩ := h
  exact h.vs.ok
theorem BthI.stay (h : BthI b0 gm gd gr gl N nl dp dr P R y) {vb : Value} {b : List UInt8} (hb : Bs b0 vb b) : Stay P y gm gd y vb b := fun w N d hv _ =>
  hv.old (hb.below h.below) fun hl k hk hp => by
    have h1 := hb.low hl k hk
    have h2 := h.pfar k hp
    omega
/-! The program's calls. -/
theorem Bth.save (h : Bth b0 gm gd gr gl N nl dp dr y) (hN : N ≤ 900000000) (hp : dp.pend.length ≤ 400000) (at_ n : Int) (vb : Value) (b : List UInt8) (hb : Bs b0 vb b) :
    Calls Tryz.prog 10 #[.pointer (some ⟨gm, 0, none⟩), .pointer (some ⟨gd, 0, none⟩), .int .i64 at_, .int .i64 n, vb] y fun e z => e = .returned (.int .i64 (saveF hdV dp at_ n b).1) ∧ Bth b0 gm gd gr gl (N + 3) nl (saveF hdV dp at_ n b).2 dr z ∧ Kb y z := by
  obtain ⟨P, R, h⟩ := h
  exact (save_any h.vs hN hp at_ n vb b (h.stay hb)).mono fun e z ⟨he, v, l⟩ => ⟨he, h.progStep v, Kb.of_lk l⟩
theorem Bth.load (h : Bth b0 gm gd gr gl N nl dp dr y) (hN : N ≤ 900000000) (at_ n : Int) :
    Calls Tryz.prog 22 #[.pointer (some ⟨gm, 0, none⟩), .pointer (some ⟨gd, 0, none⟩), .int .i64 at_, .int .i64 n] y fun e z => ∃ v, e = .returned (.tuple #[v, .int .u64 ((loadF hdV dp at_ n).2.1 : Int), .int .i64 (loadF hdV dp at_ n).2.2]) ∧ Bs z v (loadF hdV dp at_ n).1 ∧ U8At z v ∧ Bth b0 gm gd gr gl (N + 2) nl dp dr z ∧ Kb y z := by
  obtain ⟨P, R, h⟩ := h
  exact (vload_any h.vs hN at_ n).mono fun e z ⟨u, he, s, q, v, l⟩ => ⟨u, he, s, q, h.progStep v, Kb.of_lk l⟩
theorem Bth.recover (h : Bth b0 gm gd gr gl N nl dp dr y) (hN : N ≤ 900000000) (hp : dp.pend.length ≤ 400000) (at_ n : Int) :
    Calls Tryz.prog 16 #[.pointer (some ⟨gm, 0, none⟩), .pointer (some ⟨gd, 0, none⟩), .int .i64 at_, .int .i64 n] y fun e z => ∃ v, e = .returned (.tuple #[v, .int .u64 ((recF hdV dp at_ n).1.2.1 : Int), .int .i64 (recF hdV dp at_ n).1.2.2]) ∧ Bs z v (recF hdV dp at_ n).1.1 ∧ U8At z v ∧ Bth b0 gm gd gr gl (N + 2) nl (recF hdV dp at_ n).2 dr z ∧ Kb y z := by
  obtain ⟨P, R, h⟩ := h
  exact (recover_any h.vs hN hp at_ n).mono fun e z ⟨u, he, s, q, v, l⟩ => ⟨u, he, s, q, h.progStep v, Kb.of_lk l⟩
theorem Bth.stale (h : Bth b0 gm gd gr gl N nl dp dr y) (at_ n : Int) :
    Calls Tryz.prog 24 #[.pointer (some ⟨gd, 0, none⟩), .int .i64 at_, .int .i64 n] y (RetV y (.tuple #[.bool (staleF dp at_ n).1, .int .i64 (staleF dp at_ n).2])) := by
  obtain ⟨P, R, h⟩ := h
  exact stale_ret h.vs at_ n
theorem Bth.fuse (h : Bth b0 gm gd gr gl N nl dp dr y) (n : Int) (hn : -9223372036854775808 ≤ n ∧ n ≤ 9223372036854775807) : Calls Tryz.prog 14 #[.pointer (some ⟨gd, 0, none⟩), .int .i64 n] y fun e z => e = .returned (.tuple #[]) ∧ Bth b0 gm gd gr gl N nl (dp.set n) dr z ∧ Kb y z := by
  obtain ⟨P, R, h⟩ := h
  exact (h.vs.fuse n hn).mono fun e z ⟨he, v, l⟩ => ⟨he, h.progStep v, Kb.of_lk l⟩
theorem Bth.write (h : Bth b0 gm gd gr gl N nl dp dr y) (i : Int) (vb : Value) (b : List UInt8) (hb : Bs y vb b) (hp : dp.pend.length ≤ 1000000) : Calls Tryz.prog 19 #[.pointer (some ⟨gd, 0, none⟩), .int .i64 i, vb] y fun e z => e = .returned (.int .i64 (dp.writeE i b)) ∧ Bth b0 gm gd gr gl N nl (dp.write i b) dr z ∧ Kb y z := by
  obtain ⟨P, R, h⟩ := h
  exact (h.vs.write i vb b hb hp).mono fun e z ⟨he, v, l⟩ => ⟨he, h.progStep v, Kb.of_lk l⟩
theorem Bth.read (h : Bth b0 gm gd gr gl N nl dp dr y) (i : Int) :
    Calls Tryz.prog 26 #[.pointer (some ⟨gd, 0, none⟩), .int .i64 i] y fun e z => ∃ v, e = .returned (.tuple #[v, .int .i64 (dp.readE i)]) ∧ OwnB z y.heap.size 5 v (dp.readB i) ∧ Below y.heap.size y z := by
  obtain ⟨P, R, h⟩ := h
  exact h.vs.read i
theorem Bth.crash (h : Bth b0 gm gd gr gl N nl dp dr y) (vk : Value) (keep : List Bool) (hk : Bls b0 vk keep) (hp : dp.pend.length ≤ 1000000) :
    Calls Tryz.prog 12 #[.pointer (some ⟨gd, 0, none⟩), vk] y fun e z => e = .returned (.tuple #[]) ∧ Bth b0 gm gd gr gl N nl (dp.crash keep) dr z ∧ Kb y z := by
  obtain ⟨P, R, h⟩ := h
  have hF : ∀ gn cn gs cs vp, DevIs y gd gn cn gs cs vp dp → ∀ k, k < b0.heap.size → ¬ Foot gd gn gs vp k := by
    obtain ⟨n, hn, ⟨gn0, cn0, gs0, cs0, vp0, h0, hF0⟩, _⟩ := h.prog
    intro gn cn gs cs vp h1 k hk hf
    have e := h0.row.symm.trans h1.row
    injection e with e
    injection e with e
    have e1 := congrArg (·[0]?) e
    have e2 := congrArg (·[1]?) e
    have e3 := congrArg (·[2]?) e
    simp at e1 e2 e3
    obtain ⟨rfl, rfl⟩ := e1
    obtain ⟨rfl, rfl⟩ := e2
    subst e3
    have := h.pfar k (hF0 k hf)
    omega
  refine (h.vs.ret fun gn cn gs cs vp hd => devCrash_any y gd gn cn gs cs vp dp hd vk keep (hk.below h.below) (fun hl k hk2 hf => hF gn cn gs cs vp hd k (hk.low hl k hk2) hf) hp).mono fun e z ⟨he, v, l⟩ => ⟨he, h.progStep v, Kb.of_lk l⟩
/-! The document's calls. -/
theorem BthI.dv (h : BthI b0 gm gd gr gl N nl dp dr P R y) : DV y R (fun k => k = gr ∨ k = gl) gr dr y := by
  obtain ⟨a, hs, hd⟩ := h.doc
  exact DV.start hd hs (.inl rfl)
theorem BthI.dvStep (h : BthI b0 gm gd gr gl N nl dp dr P R y) (v : DV y R (fun k => k = gr ∨ k = gl) gr dr' z) (hl : LogR b0 z gl nl' z) : Bth b0 gm gd gr gl N nl' dp dr' z ∧ Kb y z := h.docStep v.turn v.dev hl.row
theorem Bth.rsave (h : Bth b0 gm gd gr gl N nl dp dr y) (hN : nl ≤ 900000) (hp : dr.pend.length ≤ 400000) (at_ n : Int) (vb : Value) (b : List UInt8) (hb : Bs b0 vb b) :
    Calls Tryz.prog 11 #[.pointer (some ⟨gl, 0, none⟩), .pointer (some ⟨gr, 0, none⟩), .int .i64 at_, .int .i64 n, vb] y fun e z => ∃ nl', nl' ≤ nl + 4 ∧ e = .returned (.int .i64 (saveF hdV dr at_ n b).1) ∧ Bth b0 gm gd gr gl N nl' dp (saveF hdV dr at_ n b).2 z ∧ Kb y z := by
  obtain ⟨P, R, h⟩ := h
  refine (refSave_any (w := y) (x := y) (w0 := b0) (h := h.dv) (hp := by omega) h.lr (.inr rfl) h.ne h.log.glt h.gfar at_ n vb b (hb.below h.below) h.log (by omega)).mono fun e z ⟨m, hm, he, v, l⟩ => ?_
  obtain ⟨q1, q2⟩ := h.dvStep v l
  exact ⟨m, by omega, he, q1, q2⟩
theorem Bth.rrecover (h : Bth b0 gm gd gr gl N nl dp dr y) (hN : nl ≤ 900000) (hp : dr.pend.length ≤ 400000) (at_ n : Int) :
    Calls Tryz.prog 17 #[.pointer (some ⟨gl, 0, none⟩), .pointer (some ⟨gr, 0, none⟩), .int .i64 at_, .int .i64 n] y fun e z => ∃ v nl', nl' ≤ nl + 4 ∧ e = .returned (.tuple #[v, .int .u64 ((recF hdV dr at_ n).1.2.1 : Int), .int .i64 (recF hdV dr at_ n).1.2.2]) ∧ Bs z v (recF hdV dr at_ n).1.1 ∧ Bth b0 gm gd gr gl N nl' dp (recF hdV dr at_ n).2 z ∧ Kb y z := by
  obtain ⟨P, R, h⟩ := h
  refine (refRecover_any (w := y) (x := y) (w0 := b0) (h := h.dv) (hp := by omega) h.lr (.inr rfl) h.ne h.log.glt h.gfar at_ n h.log (by omega)).mono fun e z ⟨u, m, hm, he, s, v, l⟩ => ?_
  obtain ⟨q1, q2⟩ := h.dvStep v l
  exact ⟨u, m, by omega, he, s, q1, q2⟩
theorem BthI.logStep (h : BthI b0 gm gd gr gl N nl dp dr P R y) (l : LogR b0 y gl nl' z) : Bth b0 gm gd gr gl N nl' dp dr z ∧ Kb y z := by
  obtain ⟨a, hs, hd⟩ := h.doc
  have t := l.turn
  exact h.docStep (t.mono fun k _ hk => .inr hk) ⟨a, hs, (hd.turned t (fun k hk e => h.lr (e ▸ hk)) h.ne).widen (fun k hk => .inl hk) (wide_free (by obtain ⟨_, _, _, _, q⟩ := hd; exact q.free) hd.lt)⟩ l.row
theorem Bth.rload (h : Bth b0 gm gd gr gl N nl dp dr y) (hN : nl ≤ 900000) (hp : dr.pend.length ≤ 400000) (at_ n : Int) :
    Calls Tryz.prog 23 #[.pointer (some ⟨gl, 0, none⟩), .pointer (some ⟨gr, 0, none⟩), .int .i64 at_, .int .i64 n] y fun e z => ∃ v nl', nl' ≤ nl + 2 ∧ e = .returned (.tuple #[v, .int .u64 ((loadF hdV dr at_ n).2.1 : Int), .int .i64 (loadF hdV dr at_ n).2.2]) ∧ Bs z v (loadF hdV dr at_ n).1 ∧ Bth b0 gm gd gr gl N nl' dp dr z ∧ Kb y z := by
  obtain ⟨P, R, h⟩ := h
  obtain ⟨a, hs, vs, vp, ss, ps, hd⟩ := h.doc
  refine (refLoad_any b0 y gl nl R gr vs vp ss ps a dr hd hs (by omega) h.lr h.ne at_ n h.log (by omega)).mono fun e z ⟨u, m, hm, he, s, l⟩ => ?_
  obtain ⟨q1, q2⟩ := h.logStep l
  exact ⟨u, m, hm, he, s, q1, q2⟩
theorem Bth.rstale (h : Bth b0 gm gd gr gl N nl dp dr y) (hp : dr.pend.length ≤ 400000) (at_ n : Int) :
    Calls Tryz.prog 25 #[.pointer (some ⟨gr, 0, none⟩), .int .i64 at_, .int .i64 n] y (RetV y (.tuple #[.bool (staleF dr at_ n).1, .int .i64 (staleF dr at_ n).2])) := by
  obtain ⟨P, R, h⟩ := h
  obtain ⟨a, hs, vs, vp, ss, ps, hd⟩ := h.doc
  exact refStale_any y R gr vs vp ss ps a dr hd hs (by omega) at_ n
theorem Bth.rhead (h : Bth b0 gm gd gr gl N nl dp dr y) (hN : nl ≤ 900000) (q : Nat) (hq : q < 18446744073709551616) (vb : Value) (b : List UInt8) (hb : Bs b0 vb b) (hbl : b.length ≤ 140737488351232) :
    Calls Tryz.prog 21 #[.pointer (some ⟨gl, 0, none⟩), .int .u64 (q : Int), vb] y fun e z => ∃ v, e = .returned v ∧ OwnB z y.heap.size 5 v (hdV q b) ∧ Bth b0 gm gd gr gl N (nl + 1) dp dr z ∧ Kb y z := by
  obtain ⟨P, R, h⟩ := h
  refine (refHead_any b0 y gl nl q hq vb b (hb.below h.below) hbl h.log (by omega)).mono fun e z ⟨u, he, s, l⟩ => ?_
  obtain ⟨q1, q2⟩ := h.logStep l
  exact ⟨u, he, s, q1, q2⟩
theorem BthI.logOf (h : BthI b0 gm gd gr gl N nl dp dr P R y) (t : Turns (fun k => k = gr) y z) : LogR b0 z gl nl z := h.log.dev t h.gfar h.ne
theorem Bth.rwrite (h : Bth b0 gm gd gr gl N nl dp dr y) (hp : dr.pend.length ≤ 400000) (i : Int) (vb : Value) (b : List UInt8) (hb : Bs y vb b) :
    Calls Tryz.prog 20 #[.pointer (some ⟨gr, 0, none⟩), .int .i64 i, vb] y fun e z => e = .returned (.int .i64 (dr.writeE i b)) ∧ Bth b0 gm gd gr gl N nl dp (dr.write i b) z ∧ Kb y z := by
  obtain ⟨P, R, h⟩ := h
  refine (h.dv.write (by omega) i vb b hb).mono fun e z ⟨he, v, t, _⟩ => ?_
  obtain ⟨q1, q2⟩ := h.dvStep v (h.logOf t)
  exact ⟨he, q1, q2⟩
theorem Bth.rcrash (h : Bth b0 gm gd gr gl N nl dp dr y) (hp : dr.pend.length ≤ 400000) (vk : Value) (keep : List Bool) (hk : Bls b0 vk keep) :
    Calls Tryz.prog 13 #[.pointer (some ⟨gr, 0, none⟩), vk] y fun e z => e = .returned (.tuple #[]) ∧ Bth b0 gm gd gr gl N nl dp (dr.crash keep) z ∧ Kb y z := by
  obtain ⟨P, R, h⟩ := h
  obtain ⟨a, hs, vs, vp, ss, ps, hd⟩ := h.doc
  refine (docCrash_any y R gr vs vp ss ps a hd vk keep (hk.below h.below) (by rw [← hd.lenP, hs.pend]; omega) (by rw [← hd.lenS, hs.len]; have := hs.ok.most; omega) (hs.inS hd)).mono ?_
  rintro e z ⟨he, hd2, t⟩
  obtain ⟨q1, q2⟩ := h.dvStep (h.dv.step (hs.crash keep) (hd2.widen (fun k hk => hk.imp .inl id) (wide_free (wide_free hd.free (DocIn.lt ⟨_, _, _, _, hd⟩)) (DocIn.lt ⟨_, _, _, _, hd⟩))) t) (h.logOf t)
  exact ⟨he, q1, q2⟩
theorem Bth.rfuse (h : Bth b0 gm gd gr gl N nl dp dr y) (n : Int) (hn : -9223372036854775808 ≤ n ∧ n ≤ 9223372036854775807) :
    Calls Tryz.prog 15 #[.pointer (some ⟨gr, 0, none⟩), .int .i64 n] y fun e z => e = .returned (.tuple #[]) ∧ Bth b0 gm gd gr gl N nl dp (dr.set n) z ∧ Kb y z := by
  obtain ⟨P, R, h⟩ := h
  obtain ⟨a, hs, vs, vp, ss, ps, hd⟩ := h.doc
  refine (docFuse_any y R gr vs vp ss ps a hd n).mono ?_
  rintro e z ⟨he, hd2, g2⟩
  have t := turns_g g2
  obtain ⟨q1, q2⟩ := h.dvStep (h.dv.step (hs.set hn) ⟨vs, vp, ss, ps, hd2.widen (fun k hk => .inl (.inl hk)) (wide_free (wide_free hd.free (DocIn.lt ⟨_, _, _, _, hd⟩)) (DocIn.lt ⟨_, _, _, _, hd⟩))⟩ t) (h.logOf t)
  exact ⟨he, q1, q2⟩
theorem Bth.rread (h : Bth b0 gm gd gr gl N nl dp dr y) (hp : dr.pend.length ≤ 400000) (i : Int) :
    Calls Tryz.prog 27 #[.pointer (some ⟨gr, 0, none⟩), .int .i64 i] y fun e z => ∃ v, e = .returned (.tuple #[v, .int .i64 (dr.readE i)]) ∧ Bs z v (dr.readB i) ∧ Below y.heap.size y z := by
  obtain ⟨P, R, h⟩ := h
  obtain ⟨a, hs, vs, vp, ss, ps, hd⟩ := h.doc
  exact docRead_sim y R gr vs vp ss ps a dr hd hs (by omega) i
end
/-- Both made anew. -/
theorem Bth.start {b0 w2 w3 w4 w5 : World} {gm gd gr gl : Nat} {d : Dev} {a : Ab} (ht : Tabs b0) (hd : DevOf b0 w2 gd d) (hs : Sim d a) (hg : w2.heap.size ≤ gr) (h3 : DocIn w3 (fun k => w2.heap.size ≤ k ∧ k < w3.heap.size ∧ k ≠ gr) gr a) (b3 : Below w2.heap.size w2 w3)
    (hm : NewRow w3 gm 82 (mC 0) w4) (hl : NewRow w4 gl 36 (logC 0) w5) : Bth b0 gm gd gr gl 0 0 d d w5 := by
  have hlt := ht.lt
  have h3lt := h3.lt
  have hs2 := hd.1.size
  have hs3 := b3.size
  have hs4 := hm.size
  have hs5 := hl.size
  have hsm := hm.spot
  have hsl := hl.spot
  have b35 : Below w3.heap.size w3 w5 := below_size hm.below hl.below
  have b05 : Below b0.heap.size b0 w5 := below_size (below_size hd.1 b3) b35
  obtain ⟨_, gn, cn, gs, cs, vp, h, hF⟩ := hd
  have hft : ∀ k, Foot gd gn gs vp k → b0.heap.size ≤ k ∧ k < w2.heap.size := fun k hk => ⟨hF k hk, h.lt hk⟩
  have h5 := (h.kept b3).kept b35
  have hm5 := hm.row.kept hl.below
  refine ⟨fun k => Foot gd gn gs vp k ∨ k = gm, fun k => w2.heap.size ≤ k ∧ k < w3.heap.size ∧ k ≠ gr, ⟨0, Nat.le_refl _, ⟨gn, cn, gs, cs, vp, h5, fun k hk => .inl hk⟩, hm5, .inr rfl, fun k hk => ?_, ht.below b05, fun hk2 => ?_, fun hk2 => ?_⟩, fun k hk2 => ?_, ⟨a, hs, h3.turned (F := fun _ => False) (Turns.of_below _ b35) (fun _ _ h => h) id⟩, fun k hk => by omega, fun k hk hp => ?_, LogR.new b05 hl.row (by omega), fun hk => by omega, by omega, by omega, hlt⟩
  · rcases hk with hk | rfl
    · exact foot_ty h5 hk
    · exact ⟨_, _, hm5, .inr (.inr (.inr rfl))⟩
  · rcases hk2 with h1 | h1
    · have := hft _ h1; omega
    · omega
  · rcases hk2 with h1 | h1
    · have := hft _ h1; omega
    · omega
  · rcases hk2 with h1 | h1
    · exact (hft _ h1).1
    · omega
  · rcases hp with h1 | h1
    · have := hft _ h1; omega
    · omega
end Go.Proofs.YtpgbicbjlhkonaaGreatDoor
end
section
namespace Go.Proofs.YtpgbicbjlhkonaaGreatDoor
open Go.RowKit
set_option linter.unusedVariables false
set_option maxRecDepth 20000

/-- A slice of elements of sz cells each: element j has the cells f j. -/
def Rx (w : World) (v : Value) (sz n : Nat) (f : Nat → List Value) : Prop :=
  ∃ A c, v = .slice A n c ∧ n ≤ c ∧ c ≤ maxLen ∧ (0 < n → ∃ b off, A = some ⟨b, off, none⟩ ∧ ∀ j, j < n → w.rangeAt b (off + j * sz) (f j))
section
variable {H : Type} {enc : TypeId × Value → H} {P : Program} {W : World} {base : Nat} {sp : Nat → Bool} {held : Bool}
theorem addr_add3 (g off : Nat) (i j : Nat) : ((⟨g, off, none⟩ : Addr).add i).add j = ⟨g, off + i + j, none⟩ := by
  have e1 : (⟨g, off, none⟩ : Addr).add i = ⟨g, off + i, none⟩ := by unfold Addr.add; split <;> simp_all
  rw [e1]
  unfold Addr.add
  split <;> simp_all
/-- A list of elements of sz cells: each element's cells, and that they are read. -/
theorem open_rx {t e : TypeId} {fuel : Nat} {cs : List Value} {x : DataW H × List MemPlace} {sz : Nat} (hs0 : 0 < sz)
    (ht : P.underlying t = some (.slice e)) (hce : P.cellsOf e = sz) (hone : ∀ n (c : List Value) y, c.length = sz → DataW.trod enc P W base sp held n e c = some y → c.length = sz) (h : DataW.trod enc P W base sp held fuel t cs = some x) :
    ∃ (v : Value) (n : Nat) (f : Nat → List Value), cs = [v] ∧ Rx W v sz n f ∧ ∀ j, j < n → (f j).length = sz ∧ ∃ m y, DataW.trod enc P W base sp held m e (f j) = some y := by
  rcases DataW.trod_slice ht h with ⟨rfl, _⟩ | ⟨a, len, cap, elems, rest, n, _, rfl, _, hba, hl, hm, hlen, hel, _, _⟩
  · exact ⟨_, 0, fun _ => [], rfl, ⟨none, 0, rfl, Nat.le_refl _, by simp [maxLen], fun h => by omega⟩, fun j hj => by omega⟩
  · have each : ∀ i, i < len → ∃ c : List Value, c.length = sz ∧ (∀ j, j < sz → W.cell? ((a.add (i * sz)).add j) = c[j]?) ∧ ∃ m y, DataW.trod enc P W base sp held m e c = some y := by
      intro i hi
      have h1 := hel i hi
      rw [hce, List.getElem?_eq_getElem (by omega), Option.bind_eq_some_iff] at h1
      obtain ⟨c, hc, ht2⟩ := h1
      obtain ⟨_, hcl, hcell⟩ := World.cells?_some hc
      exact ⟨c, hcl, hcell, n, _, ht2⟩
    refine ⟨_, len, fun j => if hj : j < len then (each j hj).choose else [], rfl, ⟨some a, cap, rfl, hl, hm, fun h0 => ?_⟩, fun j hj => ?_⟩
    · obtain ⟨g, off, spot⟩ := a
      have h1 := (each 0 h0).choose_spec
      have hc := h1.2.1 0 hs0
      rw [List.getElem?_eq_getElem (by rw [h1.1]; exact hs0)] at hc
      have hspot : spot = none := by simpa [Addr.add] using World.cell?_spot hc
      subst hspot
      refine ⟨g, off, rfl, fun k hk j u hj => ?_⟩
      simp only [dif_pos hk] at hj
      have hs := (each k hk).choose_spec
      have hj2 : j < sz := by
        have := (List.getElem?_eq_some_iff.1 hj).1
        rwa [hs.1] at this
      have h3 := hs.2.1 j hj2
      rw [addr_add3] at h3
      rw [h3, hj]
    · simp only [dif_pos hj]
      have hs := (each j hj).choose_spec
      exact ⟨hs.1, hs.2.2⟩
theorem open_bx {t e : TypeId} {fuel : Nat} {cs : List Value} {x : DataW H × List MemPlace} (ht : P.underlying t = some (.slice e)) (he : P.underlying e = some (.int .u8)) (hce : P.cellsOf e = 1) (h : DataW.trod enc P W base sp held fuel t cs = some x) :
    ∃ (v : Value) (l : List UInt8), cs = [v] ∧ Bs W v l := by
  obtain ⟨v, n, f, hcs, ⟨A, c, rfl, h1, h2, h3⟩, hf⟩ := open_rx (by omega) ht hce (fun _ _ _ h _ => h) h
  have each : ∀ j, j < n → ∃ b : UInt8, f j = [.int .u8 (b.toNat : Int)] := fun j hj => by
    obtain ⟨_, m, y, hy⟩ := hf j hj
    obtain ⟨z, hz, _, hwf⟩ := DataW.trod_int he hy
    exact ⟨UInt8.ofNat z.toNat, by rw [hz, u8_of_wf hwf]⟩
  refine ⟨_, List.ofFn fun i : Fin n => (each i.1 i.2).choose, hcs, A, c, by rw [List.length_ofFn], by rw [List.length_ofFn]; exact h1, h2, fun hl => ?_⟩
  rw [List.length_ofFn] at hl
  obtain ⟨b, off, hA, hc⟩ := h3 hl
  refine ⟨b, off, hA, fun j hj => ?_⟩
  rw [List.length_ofFn] at hj
  rw [List.getElem_ofFn]
  have hs := (each j hj).choose_spec
  have h4 := hc j hj 0 (.int .u8 ((each j hj).choose.toNat : Int)) (by have := congrArg (·[0]?) hs; simpa using this)
  rw [Nat.mul_one, Nat.add_zero] at h4
  exact h4
theorem open_bls {t e : TypeId} {fuel : Nat} {cs : List Value} {x : DataW H × List MemPlace} (ht : P.underlying t = some (.slice e)) (he : P.underlying e = some .bool) (hce : P.cellsOf e = 1) (h : DataW.trod enc P W base sp held fuel t cs = some x) :
    ∃ (v : Value) (l : List Bool), cs = [v] ∧ Bls W v l := by
  obtain ⟨v, n, f, hcs, ⟨A, c, rfl, h1, h2, h3⟩, hf⟩ := open_rx (by omega) ht hce (fun _ _ _ h _ => h) h
  have each : ∀ j, j < n → ∃ b : Bool, f j = [.bool b] := fun j hj => by
    obtain ⟨_, m, y, hy⟩ := hf j hj
    obtain ⟨z, hz, _⟩ := DataW.trod_bool he hy
    exact ⟨z, hz⟩
  refine ⟨_, List.ofFn fun i : Fin n => (each i.1 i.2).choose, hcs, A, c, by rw [List.length_ofFn], by rw [List.length_ofFn]; exact h1, h2, fun hl => ?_⟩
  rw [List.length_ofFn] at hl
  obtain ⟨b, off, hA, hc⟩ := h3 hl
  refine ⟨b, off, hA, fun j hj => ?_⟩
  rw [List.length_ofFn] at hj
  rw [List.getElem_ofFn]
  have hs := (each j hj).choose_spec
  have h4 := hc j hj 0 (.bool (each j hj).choose) (by have := congrArg (·[0]?) hs; simpa using this)
  rw [Nat.mul_one, Nat.add_zero] at h4
  exact h4
end
theorem five_cells {c : List Value} (h : c.length = 5) {a b d e f : Value} (h0 : (c.drop 0).take 1 = [a]) (h1 : (c.drop 1).take 1 = [b]) (h2 : (c.drop 2).take 1 = [d]) (h3 : (c.drop 3).take 1 = [e]) (h4 : (c.drop 4).take 1 = [f]) : c = [a, b, d, e, f] := by
  match c, h with
  | [x0, x1, x2, x3, x4], _ =>
    simp at h0 h1 h2 h3 h4
    rw [h0, h1, h2, h3, h4]
theorem open_opvs {H : Type} {enc : TypeId × Value → H} {W : World} {base : Nat} {sp : Nat → Bool} {held : Bool} {fuel : Nat} {cs : List Value} {x : DataW H × List MemPlace} (h : DataW.trod enc Tryz.prog W base sp held fuel 22 cs = some x) :
    ∃ (v : Value) (l : List OpV), cs = [v] ∧ Opvs W v l := by
  obtain ⟨v, n, f, hcs, ⟨A, c, rfl, h1, h2, h3⟩, hf⟩ := open_rx (sz := 5) (by omega) Tryz.underlying22 (by kernel_rfl) (fun _ _ _ h _ => h) h
  have each : ∀ j, j < n → ∃ (o : OpV) (vb vk : Value), f j = opvC o vb vk ∧ Bs W vb o.b ∧ Bls W vk o.keep ∧ (-9223372036854775808 ≤ o.n ∧ o.n ≤ 9223372036854775807) ∧ o.seq < 18446744073709551616 := fun j hj => by
    obtain ⟨hfl, m, y, hy⟩ := hf j hj
    obtain ⟨xs, m', _, _, _, hxl, hxe⟩ := DataW.trod_struct Tryz.underlying42 hy
    have f0 := hxe 0 _ rfl
    have f1 := hxe 1 _ rfl
    have f2 := hxe 2 _ rfl
    have f3 := hxe 3 _ rfl
    have f4 := hxe 4 _ rfl
    have hl5 : xs.length = 5 := hxl
    rw [List.getElem?_eq_getElem (by omega)] at f0 f1 f2 f3 f4
    obtain ⟨k, c0, _, w0⟩ := DataW.trod_int (k := .i64) Tryz.underlying3 f0
    obtain ⟨u, c1, _, w1⟩ := DataW.trod_int (k := .i64) Tryz.underlying3 f1
    obtain ⟨bv, b, c2, hb⟩ := open_bx Tryz.underlying38 Tryz.underlying5 (by kernel_rfl) f2
    obtain ⟨lv, l, c3, hl⟩ := open_bls Tryz.underlying39 Tryz.underlying4 (by kernel_rfl) f3
    obtain ⟨q, c4, _, w4⟩ := DataW.trod_int (k := .u64) Tryz.underlying40 f4
    obtain ⟨sq, rfl, hsq⟩ := u64_of_wf w4
    exact ⟨⟨k, u, b, l, sq⟩, bv, lv, five_cells hfl c0 c1 c2 c3 c4, hb, hl, i64_of_wf w1, hsq⟩
  refine ⟨_, List.ofFn fun i : Fin n => (each i.1 i.2).choose, hcs, A, c, by rw [List.length_ofFn], by rw [List.length_ofFn]; exact h1, h2, fun hl => ?_⟩
  rw [List.length_ofFn] at hl
  obtain ⟨b, off, hA, hc⟩ := h3 hl
  refine ⟨b, off, hA, fun j hj => ?_⟩
  rw [List.length_ofFn] at hj
  rw [List.getElem_ofFn]
  have hs := (each j hj).choose_spec.choose_spec.choose_spec
  refine ⟨_, _, ⟨?_, hs.2.1, hs.2.2.1, hs.2.2.2.1, hs.2.2.2.2⟩⟩
  have h4 := hc j hj
  rw [hs.1] at h4
  exact h4
end Go.Proofs.YtpgbicbjlhkonaaGreatDoor
end
