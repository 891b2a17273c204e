/-
  VaultPlays: for every input the call returns true, and each argument reads as it read before. Conditions: none beyond the given statement's own (the package-level tables that its row lists hold what the program's text lays: the card ties that).
-/
import Derived.Test.YtpgbicbjlhkonaaGreatDoorQVlpAX
import Derived.Test.YtpgbicbjlhkonaaGreatDoorQVlpAE
import Derived.Deep.CutBlock
import Derived.Deep.CutRange
import Derived.Test.YtpgbicbjlhkonaaGreatDoorQVlpAB
import Derived.Test.YtpgbicbjlhkonaaGreatDoorQVlpAY
import Derived.ProofKit
import Derived.OpenShut
import Derived.ShutString
import Derived.ChangeOld
import Derived.Deep.DeepHandedRow
section
namespace Go.Proofs.YtpgbicbjlhkonaaGreatDoor
open Go.RowKit
set_option linter.unusedVariables false
set_option maxRecDepth 20000

theorem saveF_pend (d : Dev) (at_ n : Int) (b : List UInt8) : (saveF hdV d at_ n b).2.pend.length ≤ d.pend.length + 1000 := by
  unfold saveF
  split
  · rename_i h
    obtain ⟨A, N, rfl, rfl, h1, h2, _⟩ := right_nats h
    simp only [Int.toNat_natCast]
    unfold saveR
    split
    · exact Nat.le_add_right _ _
    · split
      · exact Nat.le_add_right _ _
      · refine Nat.le_trans (Dev.run_pend _ _) (Nat.add_le_add_left ?_ _)
        unfold saveV phase
        simp only [List.length_append, List.length_map, dataW_length, eraseW_length, List.length_singleton]
        unfold chunks
        omega
  · exact Nat.le_add_right _ _
theorem recF_pend (d : Dev) (at_ n : Int) : (recF hdV d at_ n).2.pend.length ≤ d.pend.length + 1000 := by
  have hl : ∀ (C : List (List UInt8)) (A N s : Nat), N ≤ 200 → (recV C A N s).length ≤ 1000 := fun C A N s hN => by
    unfold recV
    split
    · exact Nat.zero_le _
    · unfold phase
      simp only [List.length_append, List.length_map, eraseW_length, List.length_singleton]
      omega
  unfold recF
  split
  · rename_i h
    obtain ⟨A, N, rfl, rfl, h1, h2, _⟩ := right_nats h
    simp only [Int.toNat_natCast]
    unfold recR
    split
    · exact Nat.le_add_right _ _
    · split
      · exact Nat.le_trans (Dev.run_pend _ _) (Nat.add_le_add_left (hl _ _ _ _ h2) _)
      · exact Nat.le_trans (Dev.run_pend _ _) (Nat.add_le_add_left (hl _ _ _ _ h2) _)
  · exact Nat.le_add_right _ _
theorem Bth.up {b0 y : World} {gm gd gr gl N N' nl : Nat} {dp dr : Dev} (h : Bth b0 gm gd gr gl N nl dp dr y) (h1 : N ≤ N') : Bth b0 gm gd gr gl N' nl dp dr y := h.more h1 (Nat.le_refl _) rfl
def zeroOpv : Array Value := #[.int .i64 0, .int .i64 0, .slice none 0 0, .slice none 0 0, .int .u64 0]
theorem Tryz.zeroOpv_ : (Tryz.prog.info? 42).map (·.zero) = some (some (.agg zeroOpv)) := by kernel_rfl
theorem Tryz.sizeOpv (o : OpV) (vb vk : Value) : (Tryz.prog.info? 42).map (·.size) = some (opvC o vb vk).length := by
  show _ = some 5
  kernel_rfl
theorem opv_one (o : OpV) (A : Option Addr) (n c : Nat) (A2 : Option Addr) (n2 c2 : Nat) : ∀ u ∈ (opvC (o) (.slice A n c) (.slice A2 n2 c2)).toArray.toList, u.oneCell' = true := by
  intro u hu
  simp [opvC] at hu
  rcases hu with rfl | rfl | rfl | rfl | rfl <;> rfl
theorem Tryz.builtLogV : Tryz.prog.built 36 [] = some (logC 0) := by kernel_rfl
theorem not_opv : ¬ VTy 42 := by unfold VTy; decide
theorem Kb.opv {y z : World} (h : Kb y z) {g : Nat} {c : Array Value} (hr : RowAt y g 42 c) : RowAt z g 42 c := h.row _ _ _ hr not_opv (by decide) (by decide)

set_option maxHeartbeats 16000000 in
theorem vaultPlays_walk (w : World) (ht : Tabs w) (vl : Value) (l : List OpV) (hl : Opvs w vl l) (hbig : ∀ j (hj : j < l.length), l[j].b.length ≤ 140737488351232) (at_ : Int) (hat : -9223372036854775808 ≤ at_ ∧ at_ ≤ 9223372036854775807) (n : Int) (hn : -9223372036854775808 ≤ n ∧ n ≤ 9223372036854775807) :
    Calls Tryz.prog 3 #[vl, .int .i64 at_, .int .i64 n] w (RetV w (.bool true)) := by
  have HT := Lib.hid ht
  have HL0 := Lib.hid hl
  have HG := Lib.hid hbig
  obtain ⟨lA, lc, rfl, hl1, hl2, _⟩ := hl
  unfold maxLen at hl2
  clear ht hbig
  have N1 : Hid (∀ w, Calls Tryz.prog 5 #[.int .i64 20] w fun e w' => ∃ g, e = .returned (.tuple #[.pointer (some ⟨g, 0, none⟩), .int .i64 0]) ∧ DevOf w w' g (Dev.new 20)) := fun w => devNew_of w 20 (by omega) (by omega)
  have N2 : Hid (∀ w, Calls Tryz.prog 6 #[.int .i64 20] w fun e w' => ∃ g, e = .returned (.tuple #[.pointer (some ⟨g, 0, none⟩), .int .i64 0]) ∧ w.heap.size ≤ g ∧ g < w'.heap.size ∧ DocIn w' (fun k => w.heap.size ≤ k ∧ k < w'.heap.size ∧ k ≠ g) g (Ab.new 20) ∧ Below w.heap.size w w') := fun w => docNew_any w 20 (by omega) (by omega)
  by_cases h12 : 12 < l.length
  · have hd1 : decide ((12 : Int) < (l.length : Int)) = true := by simp; omega
    have hd1' : (12 : Int) < (l.length : Int) := by omega
    go_enter Tryz.func3, Tryz.ntmps3
    go_wp2_with fail
    refine (vawake_true w HT.out).mono ?_
    rintro e w1 ⟨rfl, b1⟩
    have B1 := Lib.hid b1
    have T1 := Lib.hid (HT.out.below b1)
    have HL := Lib.hid (HL0.out.below b1)
    clear b1 HT HL0
    go_wp2_with fail
    refine (N1.out w1).mono ?_
    rintro e w2 ⟨gd, rfl, x2⟩
    have D2 := Lib.hid x2
    clear x2 N1
    go_wp2_with fail
    refine (N2.out w2).mono ?_
    rintro e w3 ⟨gr, rfl, hg1, hg2, x3, b3⟩
    have HG1 := Lib.hid hg1
    have X3 := Lib.hid x3
    have B3 := Lib.hid b3
    clear x3 N2 hg1 hg2 b3
    go_wp2
    go_ret
    exact ⟨rfl, below_size (below_size B1.out D2.out.1) B3.out⟩
  have hd12 : decide ((12 : Int) < (l.length : Int)) = false := by simp; omega
  have hd12' : ¬ (12 : Int) < (l.length : Int) := by omega
  go_enter Tryz.func3, Tryz.ntmps3
  go_wp2_with fail
  refine (vawake_true w HT.out).mono ?_
  rintro e w1 ⟨rfl, b1⟩
  have B1 := Lib.hid b1
  have T1 := Lib.hid (HT.out.below b1)
  have HL := Lib.hid (HL0.out.below b1)
  clear b1 HT HL0
  go_wp2_with fail
  refine (N1.out w1).mono ?_
  rintro e w2 ⟨gd, rfl, x2⟩
  have D2 := Lib.hid x2
  clear x2 N1
  go_wp2_with fail
  refine (N2.out w2).mono ?_
  rintro e w3 ⟨gr, rfl, hg1, hg2, x3, b3⟩
  have HG1 := Lib.hid hg1
  have X3 := Lib.hid x3
  have B3 := Lib.hid b3
  clear x3 N2 hg1 hg2 b3
  go_wp2_with fail
  refine (meter_new w3).mono ?_
  rintro e w4 ⟨gm, rfl, hm⟩
  have HM := Lib.hid hm
  clear hm
  go_wp2_with (first
    | (with_reducible refine wpList_val (o := ⟨some 68, _, _, _, _, _⟩) rfl (.agg (logC 0)) (by exact run_builtOp 36 #[] rfl _ Tryz.builtLogV) ?_)
    | ((with_reducible refine wpList_box_row (o := ⟨some 69, _, _, _, _, _⟩) rfl 36 (.tmp 68) rfl (logC 0) (by with_unfolding_all rfl) ?_); intro gl w5 m5; have V5 := Lib.hid (Bth.start T1.out D2.out (Sim.new 20 (by omega) (by omega)) HG1.out X3.out B3.out HM.out m5); clear m5))
  clear HM D2 HG1 X3 B3
  refine (room_any w5 n).mono ?_
  rintro e w6 ⟨rfl, b6⟩
  have V6 := Lib.hid (V5.out.kept b6)
  clear b6 V5
  go_wp2_with fail
  refine (refRoom_any w6 n).mono ?_
  rintro e w7 ⟨rfl, b7⟩
  have V7 := Lib.hid (V6.out.kept b7)
  clear b7 V6
  go_wp2_with fail
  go_loopw [15] (fun i wr => ∃ j : Nat, j ≤ l.length ∧ i = .int .i64 (j : Int) ∧ ∃ d nl, nl ≤ 20 * j ∧ d.pend.length ≤ 1000 * j ∧ Hid (Bth w1 gm gd gr gl (20 * j) nl d d wr)) (fun i _ => l.length - (intOf i).toNat)
  case atStart => exact ⟨0, by omega, rfl, _, 0, by omega, Nat.zero_le _, V7.out⟩
  case round =>
    clear V7
    obtain ⟨j, hj, rfl, d, nl, hnl, hpd, HB⟩ := hrel
    by_cases hlt : j < l.length
    · obtain ⟨b, off, rfl, vb, vk, ho⟩ := HL.out.at_ j hlt
      have ho2 := ho.below HB.out.below
      have hr : Hid (wr.rangeAt b (off + j * 5) (opvC l[j] vb vk)) := ho2.at_
      have hbl := HG.out j hlt
      have HO := Lib.hid ho
      have hlo := ho.low
      have hsq := ho.seq
      obtain ⟨bA, bc, rfl, _⟩ := ho.bs
      obtain ⟨kA, kc, rfl, _⟩ := ho.bls
      generalize l[j] = o at *
      obtain ⟨do_, i, bb, keep, sq⟩ := o
      simp only at *
      have hjd : decide ((j : Int) < (l.length : Int)) = true := by simp; omega
      have hjl2 : (j : Int) < (l.length : Int) := by omega
      have hj0 : ¬ ((j : Int) < 0) := by omega
      have hwj : IntKind.i64.wrap ((j : Int) + 1) = (j : Int) + 1 := IntWalk.i64_in _ (by omega)
      clear ho ho2
      go_upto_block 2 with (first
        | (with_reducible refine wpList_val (o := ⟨some 85, _, _, _, _, _⟩) rfl (.agg (opvC ⟨do_, i, bb, keep, sq⟩ (.slice bA bb.length bc) (.slice kA keep.length kc)).toArray) (by exact run_load_range 42 (.tmp 84) rfl (off + j * 5) (opvC ⟨do_, i, bb, keep, sq⟩ (.slice bA bb.length bc) (.slice kA keep.length kc)) _ (by with_unfolding_all rfl) (by with_unfolding_all exact hr.out) Tryz.underlying42 rfl (Tryz.sizeOpv _ _ _)) ?_)
        | ((with_reducible refine wpList_alloc_row (o := ⟨some 16, _, _, _, _, _⟩) rfl 42 rfl zeroOpv Tryz.zeroOpv_ ?_); intro gO wa na; have NA := Lib.hid na; clear na)
        | ((with_reducible refine wpList_store_row (o := ⟨none, _, _, _, _, _⟩) rfl 42 (.tmp 16) (.tmp 85) rfl gO 42 zeroOpv (opvC ⟨do_, i, bb, keep, sq⟩ (.slice bA bb.length bc) (.slice kA keep.length kc)).toArray (by with_unfolding_all rfl) (by with_unfolding_all rfl) NA.out.row rfl (by with_unfolding_all exact Tryz.sizeOpv _ _ _) (opv_one _ _ _ _ _ _ _) ?_); intro w8 p8; have V8 := Lib.hid (HB.out.kept (laid_put NA.out p8).1); have R8 := Lib.hid p8.row; have c80 : w8.cell? ⟨gO, 0, none⟩ = some (.int .i64 do_) := R8.out.cell 0; have c81 : w8.cell? ⟨gO, 1, none⟩ = some (.int .i64 i) := R8.out.cell 1; have c82 : w8.cell? ⟨gO, 2, none⟩ = some (.slice bA bb.length bc) := R8.out.cell 2; have c83 : w8.cell? ⟨gO, 3, none⟩ = some (.slice kA keep.length kc) := R8.out.cell 3; have c84 : w8.cell? ⟨gO, 4, none⟩ = some (.int .u64 (sq : Int)) := R8.out.cell 4; clear p8 NA))
      clear hr HB hl1
      go_cut [17, 18, 19] from 76 to 270 (fun x y f wx => ∃ (d' : Dev) (nl' : Nat) (X : Int), nl' ≤ 20 * j + 7 ∧ d'.pend.length ≤ 1000 * (j + 1) ∧ x = .int .i64 X ∧ y = .int .i64 X ∧ f = .bool true ∧ Hid (Bth w1 gm gd gr gl (20 * j + 8) nl' d' d' wx))
      case first =>
        by_cases e1 : do_ = 1
        · as_aux_lemma =>
            subst e1
            have hpn := saveF_pend d at_ n bb
            go_wp2_with fail
            refine (V8.out.save (by omega) (by omega) at_ n _ bb HO.out.bs).mono ?_
            rintro e w9 ⟨rfl, v9, k9⟩
            have V9 := Lib.hid v9
            have R9 := Lib.hid (k9.opv R8.out)
            have c91 : w9.cell? ⟨gO, 1, none⟩ = some (.int .i64 i) := R9.out.cell 1
            have c92 : w9.cell? ⟨gO, 2, none⟩ = some (.slice bA bb.length bc) := R9.out.cell 2
            have c93 : w9.cell? ⟨gO, 3, none⟩ = some (.slice kA keep.length kc) := R9.out.cell 3
            clear v9 k9 V8 R8 c81 c82 c83
            go_wp2_with fail
            refine (V9.out.rsave (by omega) (by omega) at_ n _ bb HO.out.bs).mono ?_
            rintro e w10 ⟨m10, hm10, rfl, v10, k10⟩
            have V10 := Lib.hid v10
            have R10 := Lib.hid (k10.opv R9.out)
            have c101 : w10.cell? ⟨gO, 1, none⟩ = some (.int .i64 i) := R10.out.cell 1
            have c102 : w10.cell? ⟨gO, 2, none⟩ = some (.slice bA bb.length bc) := R10.out.cell 2
            have c103 : w10.cell? ⟨gO, 3, none⟩ = some (.slice kA keep.length kc) := R10.out.cell 3
            clear v10 k10 V9 R9 c91 c92 c93
            go_wp2_with fail
            go_meet
            case rel => exact ⟨_, _, _, by omega, by omega, rfl, rfl, rfl, V10.out.up (by omega)⟩
        · have e1' : decide (do_ = 1) = false := decide_eq_false e1
          by_cases e2 : do_ = 2
          · as_aux_lemma =>
              subst e2
              have hpn : (d.crash keep).pend.length ≤ 0 := Nat.zero_le _
              go_wp2_with fail
              refine (V8.out.crash _ keep HO.out.bls (by omega)).mono ?_
              rintro e w9 ⟨rfl, v9, k9⟩
              have V9 := Lib.hid v9
              have R9 := Lib.hid (k9.opv R8.out)
              have c91 : w9.cell? ⟨gO, 1, none⟩ = some (.int .i64 i) := R9.out.cell 1
              have c92 : w9.cell? ⟨gO, 2, none⟩ = some (.slice bA bb.length bc) := R9.out.cell 2
              have c93 : w9.cell? ⟨gO, 3, none⟩ = some (.slice kA keep.length kc) := R9.out.cell 3
              clear v9 k9 V8 R8 c81 c82 c83
              go_wp2_with fail
              refine (V9.out.rcrash (by omega) _ keep HO.out.bls).mono ?_
              rintro e w10 ⟨rfl, v10, k10⟩
              have V10 := Lib.hid v10
              have R10 := Lib.hid (k10.opv R9.out)
              have c101 : w10.cell? ⟨gO, 1, none⟩ = some (.int .i64 i) := R10.out.cell 1
              have c102 : w10.cell? ⟨gO, 2, none⟩ = some (.slice bA bb.length bc) := R10.out.cell 2
              have c103 : w10.cell? ⟨gO, 3, none⟩ = some (.slice kA keep.length kc) := R10.out.cell 3
              clear v10 k10 V9 R9 c91 c92 c93
              go_wp2_with fail
              go_meet
              case rel => exact ⟨_, _, _, by omega, by omega, rfl, rfl, rfl, V10.out.up (by omega)⟩
          · have e2' : decide (do_ = 2) = false := decide_eq_false e2
            by_cases e3 : do_ = 3
            · as_aux_lemma =>
                subst e3
                have hpn : (d.set i).pend.length ≤ d.pend.length := Nat.le_refl _
                go_wp2_with fail
                refine (V8.out.fuse i hlo).mono ?_
                rintro e w9 ⟨rfl, v9, k9⟩
                have V9 := Lib.hid v9
                have R9 := Lib.hid (k9.opv R8.out)
                have c91 : w9.cell? ⟨gO, 1, none⟩ = some (.int .i64 i) := R9.out.cell 1
                have c92 : w9.cell? ⟨gO, 2, none⟩ = some (.slice bA bb.length bc) := R9.out.cell 2
                have c93 : w9.cell? ⟨gO, 3, none⟩ = some (.slice kA keep.length kc) := R9.out.cell 3
                clear v9 k9 V8 R8 c81 c82 c83
                go_wp2_with fail
                refine (V9.out.rfuse i hlo).mono ?_
                rintro e w10 ⟨rfl, v10, k10⟩
                have V10 := Lib.hid v10
                have R10 := Lib.hid (k10.opv R9.out)
                have c101 : w10.cell? ⟨gO, 1, none⟩ = some (.int .i64 i) := R10.out.cell 1
                have c102 : w10.cell? ⟨gO, 2, none⟩ = some (.slice bA bb.length bc) := R10.out.cell 2
                have c103 : w10.cell? ⟨gO, 3, none⟩ = some (.slice kA keep.length kc) := R10.out.cell 3
                clear v10 k10 V9 R9 c91 c92 c93
                go_wp2_with fail
                go_meet
                case rel => exact ⟨_, _, _, by omega, by omega, rfl, rfl, rfl, V10.out.up (by omega)⟩
            · have e3' : decide (do_ = 3) = false := decide_eq_false e3
              by_cases e4 : do_ = 4
              · as_aux_lemma =>
                  subst e4
                  have hpn := recF_pend d at_ n
                  go_wp2_with fail
                  refine (V8.out.recover (by omega) (by omega) at_ n).mono ?_
                  rintro e w9 ⟨va, rfl, s9, u9, v9, k9⟩
                  have V9 := Lib.hid v9
                  have R9 := Lib.hid (k9.opv R8.out)
                  have c91 : w9.cell? ⟨gO, 1, none⟩ = some (.int .i64 i) := R9.out.cell 1
                  have c92 : w9.cell? ⟨gO, 2, none⟩ = some (.slice bA bb.length bc) := R9.out.cell 2
                  have c93 : w9.cell? ⟨gO, 3, none⟩ = some (.slice kA keep.length kc) := R9.out.cell 3
                  have SA := Lib.hid s9
                  have UA := Lib.hid u9
                  obtain ⟨Aa, ca, rfl, _⟩ := s9.shape2
                  clear s9 u9
                  clear v9 k9 V8 R8 c81 c82 c83
                  go_wp2_with fail
                  refine (V9.out.rrecover (by omega) (by omega) at_ n).mono ?_
                  rintro e w10 ⟨vb, m10, hm10, rfl, s10, v10, k10⟩
                  have V10 := Lib.hid v10
                  have R10 := Lib.hid (k10.opv R9.out)
                  have c101 : w10.cell? ⟨gO, 1, none⟩ = some (.int .i64 i) := R10.out.cell 1
                  have c102 : w10.cell? ⟨gO, 2, none⟩ = some (.slice bA bb.length bc) := R10.out.cell 2
                  have c103 : w10.cell? ⟨gO, 3, none⟩ = some (.slice kA keep.length kc) := R10.out.cell 3
                  have SB := Lib.hid s10
                  have SA2 := Lib.hid (k10.bs _ _ SA.out UA.out).1
                  obtain ⟨Ab, cb, rfl, _⟩ := s10.shape2
                  clear s10 SA UA
                  clear v10 k10 V9 R9 c91 c92 c93
                  go_wp2_with fail
                  refine (same_yes w10 _ _ _ SA2.out SB.out).mono ?_
                  rintro e w11 ⟨rfl, b11⟩
                  have V11 := Lib.hid (V10.out.kept b11)
                  clear b11 V10 R10 c101 c102 c103 SA2 SB
                  go_wp2_with fail
                  go_meet
                  case rel => exact ⟨_, _, _, by omega, by omega, rfl, rfl, rfl, V11.out.up (by omega)⟩
              · have e4' : decide (do_ = 4) = false := decide_eq_false e4
                by_cases e5 : do_ = 5
                · as_aux_lemma =>
                    subst e5
                    have hpn := d.write_pend i bb
                    go_wp2_with fail
                    refine (V8.out.write i _ bb (HO.out.bs.below V8.out.below) (by omega)).mono ?_
                    rintro e w9 ⟨rfl, v9, k9⟩
                    have V9 := Lib.hid v9
                    have R9 := Lib.hid (k9.opv R8.out)
                    have c91 : w9.cell? ⟨gO, 1, none⟩ = some (.int .i64 i) := R9.out.cell 1
                    have c92 : w9.cell? ⟨gO, 2, none⟩ = some (.slice bA bb.length bc) := R9.out.cell 2
                    have c93 : w9.cell? ⟨gO, 3, none⟩ = some (.slice kA keep.length kc) := R9.out.cell 3
                    clear v9 k9 V8 R8 c81 c82 c83
                    go_wp2_with fail
                    refine (V9.out.rwrite (by omega) i _ bb (HO.out.bs.below V9.out.below)).mono ?_
                    rintro e w10 ⟨rfl, v10, k10⟩
                    have V10 := Lib.hid v10
                    have R10 := Lib.hid (k10.opv R9.out)
                    have c101 : w10.cell? ⟨gO, 1, none⟩ = some (.int .i64 i) := R10.out.cell 1
                    have c102 : w10.cell? ⟨gO, 2, none⟩ = some (.slice bA bb.length bc) := R10.out.cell 2
                    have c103 : w10.cell? ⟨gO, 3, none⟩ = some (.slice kA keep.length kc) := R10.out.cell 3
                    clear v10 k10 V9 R9 c91 c92 c93
                    go_wp2_with fail
                    go_meet
                    case rel => exact ⟨_, _, _, by omega, by omega, rfl, rfl, rfl, V10.out.up (by omega)⟩
                · have e5' : decide (do_ = 5) = false := decide_eq_false e5
                  by_cases e6 : do_ = 6
                  · as_aux_lemma =>
                      subst e6
                      have hpn := d.write_pend i (hdV sq bb)
                      go_wp2_with fail
                      refine (V8.out.rhead (by omega) sq hsq _ bb HO.out.bs hbl).mono ?_
                      rintro e w9 ⟨vh, rfl, oh, v9, k9⟩
                      have V9 := Lib.hid v9
                      have R9 := Lib.hid (k9.opv R8.out)
                      have c91 : w9.cell? ⟨gO, 1, none⟩ = some (.int .i64 i) := R9.out.cell 1
                      have c92 : w9.cell? ⟨gO, 2, none⟩ = some (.slice bA bb.length bc) := R9.out.cell 2
                      have c93 : w9.cell? ⟨gO, 3, none⟩ = some (.slice kA keep.length kc) := R9.out.cell 3
                      have SH := Lib.hid oh.bs
                      have UH := Lib.hid (U8At.of oh)
                      obtain ⟨Ah, ch, rfl, _, _⟩ := oh.shape
                      clear oh
                      clear v9 k9 V8 R8 c81 c82 c83
                      go_wp2_with fail
                      refine (V9.out.write i _ (hdV sq bb) SH.out (by omega)).mono ?_
                      rintro e w10 ⟨rfl, v10, k10⟩
                      have V10 := Lib.hid v10
                      have R10 := Lib.hid (k10.opv R9.out)
                      have c101 : w10.cell? ⟨gO, 1, none⟩ = some (.int .i64 i) := R10.out.cell 1
                      have c102 : w10.cell? ⟨gO, 2, none⟩ = some (.slice bA bb.length bc) := R10.out.cell 2
                      have c103 : w10.cell? ⟨gO, 3, none⟩ = some (.slice kA keep.length kc) := R10.out.cell 3
                      have SH2 := Lib.hid (k10.bs _ _ SH.out UH.out).1
                      clear SH UH
                      clear v10 k10 V9 R9 c91 c92 c93
                      go_wp2_with fail
                      refine (V10.out.rwrite (by omega) i _ (hdV sq bb) SH2.out).mono ?_
                      rintro e w11 ⟨rfl, v11, k11⟩
                      have V11 := Lib.hid v11
                      have R11 := Lib.hid (k11.opv R10.out)
                      have c111 : w11.cell? ⟨gO, 1, none⟩ = some (.int .i64 i) := R11.out.cell 1
                      have c112 : w11.cell? ⟨gO, 2, none⟩ = some (.slice bA bb.length bc) := R11.out.cell 2
                      have c113 : w11.cell? ⟨gO, 3, none⟩ = some (.slice kA keep.length kc) := R11.out.cell 3
                      clear SH2
                      clear v11 k11 V10 R10 c101 c102 c103
                      go_wp2_with fail
                      go_meet
                      case rel => exact ⟨_, _, _, by omega, by omega, rfl, rfl, rfl, V11.out.up (by omega)⟩
                  · have e6' : decide (do_ = 6) = false := decide_eq_false e6
                    as_aux_lemma =>
                      go_wp2_with fail
                      go_meet
                      case rel => exact ⟨_, _, _, by omega, by omega, rfl, rfl, rfl, V8.out.up (by omega)⟩
      case rest =>
        as_aux_lemma =>
          obtain ⟨d', nl', X, hnl', hpd', rfl, rfl, rfl, VC⟩ := hcut
          go_wp2_with fail
          refine (VC.out.load (by omega) at_ n).mono ?_
          rintro e wA ⟨va, rfl, sA, uA, vA, kA⟩
          have VA := Lib.hid vA
          have SA := Lib.hid sA
          have UA := Lib.hid uA
          obtain ⟨Aa, ca, rfl, _⟩ := sA.shape2
          clear sA uA vA kA VC
          go_wp2_with fail
          refine (VA.out.rload (by omega) (by omega) at_ n).mono ?_
          rintro e wB ⟨vb, mB, hmB, rfl, sB, vB, kB⟩
          have VB := Lib.hid vB
          have SB := Lib.hid sB
          have SA2 := Lib.hid (kB.bs _ _ SA.out UA.out).1
          obtain ⟨Ab, cb, rfl, _⟩ := sB.shape2
          clear sB vB kB VA SA UA
          generalize loadF hdV d' at_ n = L at *
          go_wp2_with fail
          refine (VB.out.stale at_ n).mono ?_
          rintro e wD ⟨rfl, bD⟩
          have VD := Lib.hid (VB.out.kept bD)
          have SA3 := Lib.hid (SA2.out.below bD)
          have SB3 := Lib.hid (SB.out.below bD)
          clear bD VB SA2 SB
          go_wp2_with fail
          refine (VD.out.rstale (by omega) at_ n).mono ?_
          rintro e wE ⟨rfl, bE⟩
          have VE := Lib.hid (VD.out.kept bE)
          have SA4 := Lib.hid (SA3.out.below bE)
          have SB4 := Lib.hid (SB3.out.below bE)
          clear bE VD SA3 SB3
          generalize staleF d' at_ n = S at *
          go_wp2_with fail
          refine (same_yes wE _ _ _ SA4.out SB4.out).mono ?_
          rintro e wF ⟨rfl, bF⟩
          have VF := Lib.hid (VE.out.kept bF)
          clear bF VE SA4 SB4
          go_wp2_with fail
          go_loopw [37] (fun u wr2 => ∃ k : Nat, k ≤ 20 ∧ u = .int .i64 (k : Int) ∧ Hid (Bth w1 gm gd gr gl (20 * j + 8 + 2) mB d' d' wr2)) (fun u _ => 20 - (intOf u).toNat)
          case atStart => exact ⟨0, by omega, rfl, VF.out⟩
          case round =>
            clear VF
            obtain ⟨k, hk, rfl, VG⟩ := hrel
            by_cases hk2 : k < 20
            · have hkd : decide ((k : Int) < 20) = true := by simp; omega
              have hkl : (k : Int) < 20 := by omega
              have hwk : IntKind.i64.wrap ((k : Int) + 1) = (k : Int) + 1 := IntWalk.i64_in _ (by omega)
              go_wp2_with fail
              refine (VG.out.read (k : Int)).mono ?_
              rintro e wH ⟨v1, rfl, o1, b1⟩
              have VH := Lib.hid (VG.out.kept b1)
              have S1 := Lib.hid o1.bs
              obtain ⟨A1, c1, rfl, _, _⟩ := o1.shape
              clear o1 b1 VG
              go_wp2_with fail
              refine (VH.out.rread (by omega) (k : Int)).mono ?_
              rintro e wI ⟨v2, rfl, s2, b2⟩
              have VI := Lib.hid (VH.out.kept b2)
              have S12 := Lib.hid (S1.out.below b2)
              have S2 := Lib.hid s2
              obtain ⟨A2, c2, rfl, _⟩ := s2.shape2
              clear s2 b2 VH S1
              go_wp2_with fail
              refine (same_yes wI _ _ _ S12.out S2.out).mono ?_
              rintro e wJ ⟨rfl, bJ⟩
              have VJ := Lib.hid (VI.out.kept bJ)
              clear bJ VI S12 S2
              go_wp2_with fail
              refine ⟨⟨k + 1, by omega, by congr 1, VJ⟩, ?_⟩
              show 20 - ((k : Int) + 1).toNat < 20 - (k : Int).toNat
              omega
            · have hkd : decide ((k : Int) < 20) = false := by simp; omega
              have hkl : ¬ (k : Int) < 20 := by omega
              have VK := Lib.hid (VG.out.up (show 20 * j + 8 + 2 ≤ 20 * (j + 1) by omega))
              clear VG
              go_wp2_with fail
              refine ⟨⟨j + 1, by omega, by congr 1, d', mB, by omega, hpd', VK⟩, ?_⟩
              show l.length - ((j : Int) + 1).toNat < l.length - (j : Int).toNat
              omega
    · obtain rfl : j = l.length := by omega
      have hjd : decide ((l.length : Int) < (l.length : Int)) = false := by simp
      have hjd' : ¬ ((l.length : Int) < (l.length : Int)) := by omega
      have BB := Lib.hid (below_size B1.out HB.out.below)
      go_wp2
      go_ret
      exact ⟨rfl, BB.out⟩
end Go.Proofs.YtpgbicbjlhkonaaGreatDoor
end
section
namespace Go.Proofs.YtpgbicbjlhkonaaGreatDoor.vaultPlays
open Go.ChangeShapes Go.WideShapes Go.ChangeAt Go.RowKit
open Go.ChangeMaps (open_string shut_string)
set_option linter.unusedVariables false

theorem own : ownKnob Tryz.prog.godebug = none := by kernel_rfl
theorem laidOut : laidOutB Tryz.prog = true := by kernel_rfl

theorem laid_met (os : Os) : laidMet Tryz.prog Rows.vaultPlaysRow.laid ((laidWorld os).forCall (fun _ _ => 0) ⟨#[], #[.slice none 0 0, .int .i64 0, .int .i64 0], []⟩).memory :=
  laidMet_of_run' 8 (by kernel_rfl) (by kernel_rfl)
theorem reads (os : Os) {H : Type} (enc : TypeId × Value → H) : ∃ places, DataW.whole enc Tryz.prog ((laidWorld os).forCall (fun _ _ => 0) ⟨#[], #[.slice none 0 0, .int .i64 0, .int .i64 0], []⟩).memory Tryz.f3.params.toList Rows.vaultPlaysSpec.vars false #[.slice none 0 0, .int .i64 0, .int .i64 0].toList 8 = some ([.nil, .lit (.int .i64 0), .lit (.int .i64 0)], [], places) :=
  ⟨[], by kernel_rfl⟩

set_option maxRecDepth 100000 in
theorem contract (H : Type) (enc : TypeId × Value → H) (W : World) (base : Nat) (args : Array Value) (ds gs : List (DataW H)) (before : List MemPlace)
    (hval0 : ∀ (j : Nat) t v, Tryz.f3.params[j]? = some t → args[j]? = some v → Value.okWide Tryz.prog W .any base t v)
    (hW : DataW.Whole enc Tryz.prog Tryz.f3.params.toList Rows.vaultPlaysSpec.vars false W args.toList ds gs before) (hL : laidMetH Tryz.prog Rows.vaultPlaysRow.laid W) (hZ : ∀ T d, Tryz.f3.params.toList[0]? = some T → ds[0]? = some d → ∀ k ∈ d.weights Tryz.prog T, k ≤ 140737488351232) :
    Calls Tryz.prog 3 args W fun e W' => ∃ v, e = .returned v ∧ Rows.vaultPlaysSpec.post enc Tryz.prog Tryz.f3 false true false false W args v W' := by
  have hq := tables hL
  have hval : ∀ (j : Nat) t v, Tryz.f3.params[j]? = some t → args[j]? = some v → Value.okWide Tryz.prog W .any base t v := hval0
  have hW' := hW
  obtain ⟨p, q, hA0, hV, rfl, hfz, hnd⟩ := hW
  have hA : DataW.TrodAll enc Tryz.prog W 0 (fun _ => true) true Tryz.f3.params.toList args.toList ds p := hA0
  rw [Tryz.params3] at hA hval
  obtain ⟨v0, vs0, d0, ds0, p0, q0, hargs, rfl, rfl, h0, r0⟩ := trodAll_cons hA
  obtain ⟨v1, vs1, d1, ds1, p1, q1, rfl, rfl, rfl, h1, r1⟩ := trodAll_cons r0
  obtain ⟨v2, vs2, d2, ds2, p2, q2, rfl, rfl, rfl, h2, r2⟩ := trodAll_cons r1
  obtain ⟨rfl, rfl, rfl⟩ := trodAll_nil r2
  obtain rfl : args = #[v0, v1, v2] := by cases args; simp_all
  obtain ⟨rfl, rfl⟩ := trodVars_none hV
  obtain ⟨a0, len0, cap0, rfl⟩ := okWide_slice Tryz.underlying22 (hval 0 22 v0 rfl rfl)
  have k0 := h0
  have lt0 : ∀ x ∈ p0, x.block < W.heap.size := by obtain ⟨m, hm⟩ := k0; exact DataW.trod_lt m _ _ _ hm
  obtain ⟨l0, w0, z0⟩ : ∃ l : List OpV, Opvs W (.slice a0 len0 cap0) l ∧ ∀ j (hj : j < l.length), l[j].b.length ≤ 140737488351232 := by
    obtain ⟨fuel, hf⟩ := h0
    obtain ⟨v, l, hcs, hk, hz⟩ := open_opvsW hf (hZ 22 d0 (by kernel_rfl) rfl)
    simp [Value.cells] at hcs
    subst hcs
    exact ⟨l, hk, hz⟩
  obtain ⟨a1, rfl, rfl, rfl, w1⟩ := open_int Tryz.underlying3 (hval 1 3 v1 rfl rfl) h1
  obtain ⟨a2, rfl, rfl, rfl, w2⟩ := open_int Tryz.underlying3 (hval 2 3 v2 rfl rfl) h2
  clear hA0 hval0
  refine (vaultPlays_walk W hq _ l0 w0 z0 a1 (i64_of_wf w1) a2 (i64_of_wf w2)).mono fun e W' ⟨he, bel⟩ => ?_
  subst he
  exact ⟨_, rfl, _, _, _, [], _, [], hW', trodAll_mk1 (shut_bool Tryz.underlying4 _), (trodAll_cons_mk (Below.trod laidOut (by kernel_rfl) (of_decide_eq_true (by kernel_rfl)) k0 bel lt0) (trodAll_cons_mk (shut_int Tryz.underlying3 w1) (trodAll_cons_mk (shut_int Tryz.underlying3 w2) trodAll_mk0))), rfl, bel.frame _, fun h => by cases h⟩

set_option maxRecDepth 100000 in
theorem lifted (os : Os) (started : os.Started) (H : Type) (enc : TypeId × Value → H) (F : Stop.Interp) :
    ReturnsInHanded {} Tryz.checked os 3 .any ((OpenSpec.ofChange Rows.vaultPlaysSpec).preRow enc Tryz.prog Tryz.f3 Rows.vaultPlaysRow.domain false Rows.vaultPlaysRow.laid) (((OpenSpec.ofChange Rows.vaultPlaysSpec).at F).post enc Tryz.prog Tryz.f3 false true false false) := by
  obtain ⟨places, hx⟩ := reads os enc
  refine returnsInHanded_of_row (C := Tryz.checked) (s := OpenSpec.ofChange Rows.vaultPlaysSpec) own started (by kernel_rfl) Tryz.func3
    (witness_row_at (enc := enc) (C := Tryz.checked) false (laidWorld os) #[.slice none 0 0, .int .i64 0, .int .i64 0] rfl (by kernel_rfl) (by kernel_rfl) (by kernel_rfl)
      (OpenSpec.preRow_of_cond 8 hx (by kernel_rfl) (fun k hk => by cases hk) (by kernel_rfl) (laid_met os))) ?_
  intro W base args ds gs before hval hW _ _ hZ hL _ _
  exact contract H enc W base args ds gs before hval hW hL fun T d hT hd k hk => by
    have := List.all_eq_true.1 hZ _ (DataW.weights_mem_each (j := 0) (by rw [List.getElem?_append_left (List.getElem?_eq_some_iff.1 hT).1]; exact hT) (by rw [List.getElem?_append_left (List.getElem?_eq_some_iff.1 hd).1]; exact hd) k hk)
    exact of_decide_eq_true this

theorem said : Rows.VaultPlaysSaid :=
  OpenClaim.holds_of_cond 3 Tryz.f3 rfl rfl rfl rfl rfl rfl rfl ⟨rfl, rfl, rfl, rfl, rfl⟩ rfl rfl rfl rfl rfl (by kernel_rfl) Tryz.func3 (by kernel_rfl)
    (of_decide_eq_true (by kernel_rfl)) (by unfold Func.isWrapper; first | (rw [if_pos (by decide +kernel)]; kernel_rfl) | (rw [if_neg (by decide +kernel)]; exact ⟨rfl, rfl⟩))
    (fun os started H enc _ F => by rw [OpenClaim.pre_eq_preRow]; exact lifted os started H enc F)

theorem noStand : (Tryz.f3.params.toList.all fun t => Tryz.prog.wantsStandIn t == false) = true := by kernel_rfl
theorem plain (f : FuncId) (fn : Func) (hf : Tryz.pinned.checked.prog.funcNamed "cablegram/cablegramlaw12.VaultPlays" = some f) (hfn : Tryz.pinned.checked.prog.funcs[f]? = some fn) :
    false = Tryz.pinned.checked.prog.looks [] ∧ ∀ (j : Nat) t, fn.params[j]? = some t → Tryz.pinned.checked.prog.wantsStandIn t = false := by
  obtain rfl : f = 3 := Option.some.inj ((show Tryz.prog.funcNamed "cablegram/cablegramlaw12.VaultPlays" = some 3 by kernel_rfl).symm.trans hf) |>.symm
  obtain rfl : fn = Tryz.f3 := (Option.some.inj (Tryz.func3.symm.trans hfn)).symm
  refine ⟨by kernel_rfl, fun j t ht => ?_⟩
  have hm : t ∈ Tryz.f3.params.toList := by simpa using Array.mem_of_getElem? ht
  exact beq_iff_eq.1 (List.all_eq_true.1 noStand t hm)

theorem proved : Rows.VaultPlaysCardSaid :=
  Claim7.holds_tied_plain_at .later [] _ _ _ _ said (fun _ h => by cases h) (by kernel_rfl) (fun _ h => by cases h) vaultPlays_row_tie rfl ⟨rfl, rfl⟩ (by kernel_rfl) rfl plain (by kernel_rfl)
#print axioms proved
end Go.Proofs.YtpgbicbjlhkonaaGreatDoor.vaultPlays
end
