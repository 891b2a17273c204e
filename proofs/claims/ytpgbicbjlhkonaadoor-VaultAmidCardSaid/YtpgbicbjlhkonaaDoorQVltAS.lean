/-
  Texts that belong together, merged: VpQ, VpR, VltSo, VpS, VpT, VltOpen, ShaOpen. Conditions: as each theorem names them.
-/
import Derived.Test.YtpgbicbjlhkonaaDoorQVltAR
import Derived.Test.YtpgbicbjlhkonaaDoorQVltAK
import Derived.Test.YtpgbicbjlhkonaaDoorQVltAH
import Derived.Test.YtpgbicbjlhkonaaDoorQVltAG
import Derived.Test.YtpgbicbjlhkonaaDoorQVltAE
import Derived.Test.YtpgbicbjlhkonaaDoorQVltAA
import Derived.OpenShut
import Derived.ChangeArms
import Derived.Test.YtpgbicbjlhkonaaDoorQVltAF
import Derived.ProofKit
import Derived.ShutString
import Derived.ChangeOld
section
namespace Go.Proofs.YtpgbicbjlhkonaaDoor
open Go.RowKit
set_option linter.unusedVariables false
set_option maxRecDepth 20000

theorem wpListG_val {P : Program} {w : World} {ops : Array Oper} {rest : List Oper} {o : Oper} {a : Act} {Q : Exit → Act → World → Prop} (hw : Region.wanted o (yielded ops a.tmps) = true) (v : Value) (hr : (execOp a.eval o).run P w = .ok (.value v) w) (h : wpList P ops Q rest (a.put o.dst v) w) : wpList P ops Q (o :: rest) a w :=
  wpList_wanted hw fun _ hK => wp_val v hr (hK _ _ h)
section
variable {F : Nat → Prop} {xw w : World} {gm g M : Nat} {d : Dev}
set_option maxHeartbeats 4000000 in
theorem stale_any (h : VS F xw gm g M d w) (at_ n : Int) :
    Calls Tryd.prog 15 #[.pointer (some ⟨g, 0, none⟩), .int .i64 at_, .int .i64 n] w fun e z => e = .returned (.tuple #[.bool (staleF d at_ n).1, .int .i64 (staleF d at_ n).2]) ∧ VS F xw gm g M d z ∧ Lk w z := by
  have HSL : Hid (∀ y, VS F xw gm g M d y → Calls Tryd.prog 23 #[.pointer (some ⟨g, 0, none⟩), .int .i64 at_, .int .i64 n] y fun e z => e = .returned (.tuple #[.agg (if rightV d.now.length at_ n = 0 then twoL g at_.toNat n.toNat else zeroTwo), .int .i64 (rightV d.now.length at_ n)]) ∧ Below y.heap.size y z) := fun y h => slots_any h at_ n
  have HH := Lib.hid h
  have hmost := h.ok.most
  have hok := h.ok
  clear h hok
  by_cases hr : rightV d.now.length at_ n = 0
  · obtain ⟨A, N, rfl, rfl, hN1, hN2, hlen⟩ := right_nats hr
    rw [hr, if_pos rfl] at HSL
    simp only [Int.toNat_natCast] at HSL
    have HSF : Hid (staleF d (A : Int) (N : Int) = (cleanV d.now (A + 0 * (N + 1)) N || cleanV d.now (A + 1 * (N + 1)) N, 0)) := by show _ = _; unfold staleF; rw [if_pos hr]; rfl
    rw [HSF.out]
    have HC0 : Hid (∀ y, VS F xw gm g M d y → Calls Tryd.prog 35 #[.agg (slotAt g A N 0)] y (RetV y (.bool (cleanV d.now (A + 0 * (N + 1)) N)))) := fun y h => isClean_any h (A + 0 * (N + 1)) N hN2 (by omega)
    have HC1 : Hid (∀ y, VS F xw gm g M d y → Calls Tryd.prog 35 #[.agg (slotAt g A N 1)] y (RetV y (.bool (cleanV d.now (A + 1 * (N + 1)) N)))) := fun y h => isClean_any h (A + 1 * (N + 1)) N hN2 (by omega)
    generalize cleanV d.now (A + 0 * (N + 1)) N = c0 at *
    generalize cleanV d.now (A + 1 * (N + 1)) N = c1 at *
    clear hr HSF
    cases c0
    · clear hlen
      go_enter Tryd.func15, Tryd.ntmps15
      go_wp2_with fail
      refine (HSL.out w HH.out).mono ?_
      rintro e w3 ⟨rfl, b3⟩
      have B3 := Lib.hid b3
      clear b3 HSL
      go_wp2_with (first | ((with_reducible refine wpList_alloc_row (o := ⟨some 8, _, _, _, _, _⟩) rfl 73 rfl zeroTwo Tryd.zeroTwo_ ?_); intro g11 wa na; have NA := Lib.hid na; clear na) | ((with_reducible refine wpList_store_row (o := ⟨none, _, _, _, _, _⟩) rfl 73 (.tmp 8) (.tmp 14) rfl g11 73 zeroTwo (twoL g A N) (by with_unfolding_all rfl) (by with_unfolding_all rfl) NA.out.row rfl (by with_unfolding_all exact Tryd.sizeTwo) (by with_unfolding_all first | exact twoL_one g A N | exact zeroTwo_one) ?_); intro w4 p4; have V4 := Lib.hid (HH.out.kept (below_size B3.out (laid_put NA.out p4).1)); have L4 := Lib.hid (Lk.of_below (below_size B3.out (laid_put NA.out p4).1)); have R11 := Lib.hid p4.row; clear p4 NA B3) | (with_reducible refine wpList_val (o := ⟨some 19, _, _, _, _, _⟩) rfl (.pointer (some ⟨g11, 0 * 3, none⟩)) (by exact run_idxArr 3 73 72 (.tmp 8) (.const (.int .i64 0)) rfl g11 2 0 (by with_unfolding_all rfl) (by with_unfolding_all rfl) (by omega) Tryd.underlying73 (Tryd.sizeSlot g A N)) ?_) | (with_reducible refine wpList_val (o := ⟨some 20, _, _, _, _, _⟩) rfl (.agg (slotAt g A N 0)) (by exact Tryd.run_loadTwo (.tmp 19) rfl g11 g A N 0 (by omega) (by with_unfolding_all rfl) R11.out) ?_))
      refine (HC0.out w4 V4.out).mono ?_
      rintro e5 w5 ⟨rfl, b5⟩
      have V5 := Lib.hid (V4.out.kept b5)
      have L5 := Lib.hid (L4.out.kept b5)
      have R15 := Lib.hid (R11.out.kept b5)
      clear b5 V4 L4 R11 HC0
      go_wp2_with (first | (with_reducible refine wpListG_val (o := ⟨some 23, _, _, _, _, _⟩) (by with_unfolding_all rfl) (.pointer (some ⟨g11, 1 * 3, none⟩)) (by exact run_idxArr 3 73 72 (.tmp 8) (.const (.int .i64 1)) rfl g11 2 1 (by with_unfolding_all rfl) (by with_unfolding_all rfl) (by omega) Tryd.underlying73 (Tryd.sizeSlot g A N)) ?_) | (with_reducible refine wpListG_val (o := ⟨some 24, _, _, _, _, _⟩) (by with_unfolding_all rfl) (.agg (slotAt g A N 1)) (by exact Tryd.run_loadTwo (.tmp 23) rfl g11 g A N 1 (by omega) (by with_unfolding_all rfl) R15.out) ?_))
      refine (HC1.out w5 V5.out).mono ?_
      rintro e6 w6 ⟨rfl, b6⟩
      have V6 := Lib.hid (V5.out.kept b6)
      have L6 := Lib.hid (L5.out.kept b6)
      clear b6 V5 L5 R15 HC1
      go_wp2
      go_ret2
      exact ⟨rfl, V6.out, L6.out⟩
    · clear hlen HC1
      go_enter Tryd.func15, Tryd.ntmps15
      go_wp2_with fail
      refine (HSL.out w HH.out).mono ?_
      rintro e w3 ⟨rfl, b3⟩
      have B3 := Lib.hid b3
      clear b3 HSL
      go_wp2_with (first | ((with_reducible refine wpList_alloc_row (o := ⟨some 8, _, _, _, _, _⟩) rfl 73 rfl zeroTwo Tryd.zeroTwo_ ?_); intro g11 wa na; have NA := Lib.hid na; clear na) | ((with_reducible refine wpList_store_row (o := ⟨none, _, _, _, _, _⟩) rfl 73 (.tmp 8) (.tmp 14) rfl g11 73 zeroTwo (twoL g A N) (by with_unfolding_all rfl) (by with_unfolding_all rfl) NA.out.row rfl (by with_unfolding_all exact Tryd.sizeTwo) (by with_unfolding_all first | exact twoL_one g A N | exact zeroTwo_one) ?_); intro w4 p4; have V4 := Lib.hid (HH.out.kept (below_size B3.out (laid_put NA.out p4).1)); have L4 := Lib.hid (Lk.of_below (below_size B3.out (laid_put NA.out p4).1)); have R11 := Lib.hid p4.row; clear p4 NA B3) | (with_reducible refine wpList_val (o := ⟨some 19, _, _, _, _, _⟩) rfl (.pointer (some ⟨g11, 0 * 3, none⟩)) (by exact run_idxArr 3 73 72 (.tmp 8) (.const (.int .i64 0)) rfl g11 2 0 (by with_unfolding_all rfl) (by with_unfolding_all rfl) (by omega) Tryd.underlying73 (Tryd.sizeSlot g A N)) ?_) | (with_reducible refine wpList_val (o := ⟨some 20, _, _, _, _, _⟩) rfl (.agg (slotAt g A N 0)) (by exact Tryd.run_loadTwo (.tmp 19) rfl g11 g A N 0 (by omega) (by with_unfolding_all rfl) R11.out) ?_))
      refine (HC0.out w4 V4.out).mono ?_
      rintro e5 w5 ⟨rfl, b5⟩
      have V5 := Lib.hid (V4.out.kept b5)
      have L5 := Lib.hid (L4.out.kept b5)
      have R15 := Lib.hid (R11.out.kept b5)
      clear b5 V4 L4 R11 HC0
      go_wp2
      go_ret2
      exact ⟨rfl, V5.out, L5.out⟩
  · have e : Hid (staleF d at_ n = (false, rightV d.now.length at_ n)) := by show _ = _; unfold staleF; rw [if_neg hr]
    rw [e.out]
    rw [if_neg hr] at HSL
    generalize rightV d.now.length at_ n = r at *
    have hd1 : decide (r = 0) = false := decide_eq_false hr
    have hd2 : (r != 0) = true := by simp [hr]
    go_enter Tryd.func15, Tryd.ntmps15
    go_wp2_with fail
    refine (HSL.out w HH.out).mono ?_
    rintro e w3 ⟨rfl, b3⟩
    have B3 := Lib.hid b3
    clear b3 HSL
    go_wp2_with (first | ((with_reducible refine wpList_alloc_row (o := ⟨some 8, _, _, _, _, _⟩) rfl 73 rfl zeroTwo Tryd.zeroTwo_ ?_); intro g11 wa na; have NA := Lib.hid na; clear na) | ((with_reducible refine wpList_store_row (o := ⟨none, _, _, _, _, _⟩) rfl 73 (.tmp 8) (.tmp 14) rfl g11 73 zeroTwo zeroTwo (by with_unfolding_all rfl) (by with_unfolding_all rfl) NA.out.row rfl (by with_unfolding_all exact Tryd.sizeTwo) (by with_unfolding_all first | exact twoL_one g A N | exact zeroTwo_one) ?_); intro w4 p4; have V4 := Lib.hid (HH.out.kept (below_size B3.out (laid_put NA.out p4).1)); have L4 := Lib.hid (Lk.of_below (below_size B3.out (laid_put NA.out p4).1)); have R11 := Lib.hid p4.row; clear p4 NA B3))
    go_ret2
    exact ⟨rfl, V4.out, L4.out⟩
end
end Go.Proofs.YtpgbicbjlhkonaaDoor
end
section
namespace Go.Proofs.YtpgbicbjlhkonaaDoor
open Go.RowKit
set_option linter.unusedVariables false
set_option maxRecDepth 20000

section
variable {x y z : World} {gm g N : Nat} {d : Dev}
/-- A crash, by what was there ahead of the device. -/
theorem VS.crash (h : VS (fun _ => False) x gm g N d y) (vk : Value) (keep : List Bool) (hk : Bls x vk keep) (hp : d.pend.length ≤ 1000000) :
    Calls Tryd.prog 14 #[.pointer (some ⟨g, 0, none⟩), vk] y fun e z => e = .returned (.tuple #[]) ∧ VS (fun _ => False) x gm g N (d.crash keep) z ∧ Lk y z := by
  have hb := h.below
  have hF : ∀ gn cn gs cs vp, DevIs y g gn cn gs cs vp d → ∀ k, k < x.heap.size → ¬ Foot g gn gs vp k := by
    obtain ⟨F', n, hn, ⟨⟨gn0, cn0, gs0, cs0, vp0, h0, hF0⟩, _⟩, _, h3⟩ := h
    intro gn cn gs cs vp h1 k hk hf
    have e := h0.row.symm.trans h1.row
    injection e with e
    injection e with e
    have e1 := congrArg (·[0]?) e
    have e2 := congrArg (·[1]?) e
    have e3 := congrArg (·[2]?) e
    simp at e1 e2 e3
    obtain ⟨rfl, rfl⟩ := e1
    obtain ⟨rfl, rfl⟩ := e2
    subst e3
    rcases h3 k (hF0 k hf) with h | h
    · exact h
    · omega
  exact h.ret fun gn cn gs cs vp hd => devCrash_any y g gn cn gs cs vp d hd vk keep (hk.below hb) (fun hl k hk2 hf => hF gn cn gs cs vp hd k (hk.low hl k hk2) hf) hp
end
/-- What is to be done. -/
structure OpV where
  do_ : Int
  n : Int
  b : List UInt8
  keep : List Bool
  seq : Nat
def opvC (o : OpV) (vb vk : Value) : List Value := [.int .i64 o.do_, .int .i64 o.n, vb, vk, .int .u64 (o.seq : Int)]
structure OpvAt (w : World) (b off : Nat) (o : OpV) (vb vk : Value) : Prop where
  at_ : w.rangeAt b off (opvC o vb vk)
  bs : Bs w vb o.b
  bls : Bls w vk o.keep
  low : -9223372036854775808 ≤ o.n ∧ o.n ≤ 9223372036854775807
  seq : o.seq < 18446744073709551616
def Opvs (w : World) (v : Value) (l : List OpV) : Prop :=
  ∃ A c, v = .slice A l.length c ∧ l.length ≤ c ∧ c ≤ maxLen ∧ (0 < l.length → ∃ b off, A = some ⟨b, off, none⟩ ∧ ∀ j (hj : j < l.length), ∃ vb vk, OpvAt w b (off + j * 5) l[j] vb vk)
theorem OpvAt.below {w w' : World} {b off : Nat} {o : OpV} {vb vk : Value} (h : OpvAt w b off o vb vk) (hb : Below w.heap.size w w') : OpvAt w' b off o vb vk where
  at_ j v hj := by
    have h1 := h.at_ j v hj
    rw [← h1]
    exact hb.cell (World.block_lt_of_cell? w _ h1)
  bs := h.bs.below hb
  bls := h.bls.below hb
  low := h.low
  seq := h.seq
theorem OpvAt.cell {w : World} {b off : Nat} {o : OpV} {vb vk : Value} (h : OpvAt w b off o vb vk) (i : Nat) (v : Value) (hv : (opvC o vb vk)[i]? = some v) : w.cell? ⟨b, off + i, none⟩ = some v := h.at_ i v hv
theorem Opvs.at_ {w : World} {A : Option Addr} {n c : Nat} {l : List OpV} (h : Opvs w (.slice A n c) l) (j : Nat) (hj : j < l.length) : ∃ b off, A = some ⟨b, off, none⟩ ∧ ∃ vb vk, OpvAt w b (off + j * 5) l[j] vb vk := by
  obtain ⟨A', c', hv, _, _, h3⟩ := h
  injection hv with e1 _ _
  obtain ⟨b, off, hA, hc⟩ := h3 (by omega)
  exact ⟨b, off, e1.trans hA, hc j hj⟩
theorem Opvs.below {w w' : World} {v : Value} {l : List OpV} (h : Opvs w v l) (hb : Below w.heap.size w w') : Opvs w' v l := by
  obtain ⟨A, c, hv, h1, h2, h3⟩ := h
  refine ⟨A, c, hv, h1, h2, fun hl => ?_⟩
  obtain ⟨b, off, hA, h4⟩ := h3 hl
  refine ⟨b, off, hA, fun j hj => ?_⟩
  obtain ⟨vb, vk, h5⟩ := h4 j hj
  exact ⟨vb, vk, h5.below hb⟩
theorem loadF_12 {d : Dev} (h : d.now.length = 20) : loadF hdV d 1 2 = loadV hdV d 1 2 := by unfold loadF; rw [if_pos (right_12 h)]; rfl
theorem saveF_12 {d : Dev} (h : d.now.length = 20) (b : List UInt8) : saveF hdV d 1 2 b = saveR hdV d 1 2 b := by unfold saveF; rw [if_pos (right_12 h)]; rfl
theorem recF_12 {d : Dev} (h : d.now.length = 20) : recF hdV d 1 2 = recR hdV d 1 2 := by unfold recF; rw [if_pos (right_12 h)]; rfl
theorem staleF_12 {d : Dev} (h : d.now.length = 20) : staleF d 1 2 = (cleanV d.now (lowOf 1 2 0) 2 || cleanV d.now (lowOf 1 2 1) 2, 0) := by unfold staleF; rw [if_pos (right_12 h)]; rfl
/-- Bytes of the law's arguments stay. -/
theorem stay_arg {x w : World} {gm g : Nat} {v : Value} {b : List UInt8} (h : Bs x v b) : Stay (fun _ => False) x gm g w v b := fun z N d hv _ => hv.old h fun _ _ _ hf => hf
theorem stay_u8 {F : Nat → Prop} {x w : World} {gm g : Nat} {v : Value} {b : List UInt8} (h : Bs w v b) (hu : U8At w v) : Stay F x gm g w v b := fun z N d hv hl => hl.bs h hu
theorem meter_new (w : World) : Calls Tryd.prog 11 #[.bool false] w fun e w' => ∃ g, e = .returned (.pointer (some ⟨g, 0, none⟩)) ∧ NewRow w g 70 (mC 0) w' := New_any w false
/-- What made hands back. -/
def MadeRet (w : World) (n : Nat) (e : Ending) (w' : World) : Prop := (12 < n ∧ e = .returned (.pointer none) ∧ Below w.heap.size w w') ∨ (n ≤ 12 ∧ ∃ g d, e = .returned (.pointer (some ⟨g, 0, none⟩)) ∧ DevOf w w' g d ∧ MadeV hdV 12 d)
set_option maxHeartbeats 4000000 in
theorem vmade_any (w : World) (ht : Tabs w) (v : Value) (l : List OpV) (h : Opvs w v l) :
    Calls Tryd.prog 8 #[v] w (MadeRet w l.length) := by
  have HH := Lib.hid h
  have HT := Lib.hid ht
  obtain ⟨A, c, rfl, h1, h2, _⟩ := h
  unfold maxLen at h2
  have HN : Hid (∀ w, Calls Tryd.prog 18 #[.int .i64 20] w fun e w' => ∃ g, e = .returned (.tuple #[.pointer (some ⟨g, 0, none⟩), .int .i64 0]) ∧ DevOf w w' g (Dev.new 20)) := fun w => devNew_of w 20 (by omega) (by omega)
  clear ht
  by_cases h12 : 12 < l.length
  · have hd1 : decide ((12 : Int) < (l.length : Int)) = true := by simp; omega
    have hd1' : (12 : Int) < (l.length : Int) := by omega
    go_enter Tryd.func8, Tryd.ntmps8
    go_wp2_with fail
    refine (HN.out w).mono ?_
    rintro e w1 ⟨g, rfl, hd⟩
    have HD := Lib.hid hd
    clear hd HN
    go_wp2
    go_ret
    exact .inl ⟨h12, rfl, HD.out.below⟩
  · have hd1 : decide ((12 : Int) < (l.length : Int)) = false := by simp; omega
    have hd1' : ¬ (12 : Int) < (l.length : Int) := by omega
    go_enter Tryd.func8, Tryd.ntmps8
    go_wp2_with fail
    refine (HN.out w).mono ?_
    rintro e w1 ⟨g, rfl, hd⟩
    have HD := Lib.hid hd
    clear hd HN
    go_wp2_with fail
    refine (meter_new w1).mono ?_
    rintro e w2 ⟨gm, rfl, hm⟩
    have HV := Lib.hid (VS.start HT.out HD.out hm)
    clear hm HD
    go_wp2_with fail
    go_loopw [6] (fun i wr => ∃ j : Nat, j ≤ l.length ∧ i = .int .i64 (j : Int) ∧ ∃ d, Hid (VS (fun _ => False) w gm g (5 * j) d wr) ∧ Hid (MadeV hdV j d)) (fun i _ => l.length - (intOf i).toNat)
    case atStart => exact ⟨0, by omega, rfl, _, HV, MadeV.new⟩
    case round =>
      clear HV
      obtain ⟨j, hj, rfl, d, HD, HM⟩ := hrel
      by_cases hlt : j < l.length
      · obtain ⟨b, off, rfl, vb, vk, ho⟩ := HH.out.at_ j hlt
        have hlen := HM.out.len
        have hpend := HM.out.pend
        have ho2 := ho.below HD.out.below
        have cd := ho2.cell 0 _ rfl
        rw [Nat.add_zero] at cd
        have ci := ho2.cell 1 _ rfl
        have cb := ho2.cell 2 _ rfl
        have ck := ho2.cell 3 _ rfl
        have HO := Lib.hid ho
        have hlo := ho.low
        obtain ⟨bA, bc, rfl, _⟩ := ho.bs
        obtain ⟨kA, kc, rfl, _⟩ := ho.bls
        generalize l[j] = o at *
        obtain ⟨do_, i, bb, keep, sq⟩ := o
        have hd1 : decide ((j : Int) < (l.length : Int)) = true := by simp; omega
        have hjl2 : (j : Int) < (l.length : Int) := by omega
        have hj0 : ¬ ((j : Int) < 0) := by omega
        have hwj : IntKind.i64.wrap ((j : Int) + 1) = (j : Int) + 1 := IntWalk.i64_in _ (by omega)
        clear ho ho2
        simp only at *
        by_cases e1 : do_ = 1
        · subst e1
          go_wp2_with fail
          refine (save_any HD.out (by omega) (by omega) 1 2 _ bb (stay_arg HO.out.bs)).mono ?_
          rintro e w2 ⟨rfl, x2, l2⟩
          rw [saveF_12 hlen] at x2 ⊢
          have NV : Hid (VS (fun _ => False) w gm g (5 * (j + 1)) (saveR hdV d 1 2 bb).2 w2) := x2.more (by omega)
          have NM : Hid (MadeV hdV (j + 1) (saveR hdV d 1 2 bb).2) := HM.out.save hdV_ok (by omega) bb
          clear x2 l2 HD HM cd ci cb ck
          go_wp2_with fail
          refine ⟨⟨j + 1, by omega, by congr 1, _, NV, NM⟩, ?_⟩
          show l.length - ((j : Int) + 1).toNat < l.length - (j : Int).toNat
          omega
        · have e1' : decide (do_ = 1) = false := decide_eq_false e1
          by_cases e2 : do_ = 2
          · subst e2
            go_wp2_with fail
            refine (HD.out.crash _ keep HO.out.bls (by omega)).mono ?_
            rintro e w2 ⟨rfl, x2, l2⟩
            have NV : Hid (VS (fun _ => False) w gm g (5 * (j + 1)) (d.crash keep) w2) := x2.more (by omega)
            have NM : Hid (MadeV hdV (j + 1) (d.crash keep)) := (HM.out.crash keep).more (by omega)
            clear x2 l2 HD HM cd ci cb ck
            go_wp2_with fail
            refine ⟨⟨j + 1, by omega, by congr 1, _, NV, NM⟩, ?_⟩
            show l.length - ((j : Int) + 1).toNat < l.length - (j : Int).toNat
            omega
          · have e2' : decide (do_ = 2) = false := decide_eq_false e2
            by_cases e3 : do_ = 3
            · subst e3
              go_wp2_with fail
              refine (HD.out.fuse i hlo).mono ?_
              rintro e w2 ⟨rfl, x2, l2⟩
              have NV : Hid (VS (fun _ => False) w gm g (5 * (j + 1)) (d.set i) w2) := x2.more (by omega)
              have NM : Hid (MadeV hdV (j + 1) (d.set i)) := (HM.out.set hlo).more (by omega)
              clear x2 l2 HD HM cd ci cb ck
              go_wp2_with fail
              refine ⟨⟨j + 1, by omega, by congr 1, _, NV, NM⟩, ?_⟩
              show l.length - ((j : Int) + 1).toNat < l.length - (j : Int).toNat
              omega
            · have e3' : decide (do_ = 3) = false := decide_eq_false e3
              by_cases e4 : do_ = 4
              · subst e4
                go_wp2_with fail
                refine (recover_any HD.out (by omega) (by omega) 1 2).mono ?_
                rintro e w2 ⟨v2, rfl, s2, u2, x2, l2⟩
                obtain ⟨_, _, rfl, _⟩ := s2.shape2
                rw [recF_12 hlen] at x2 ⊢
                have NV : Hid (VS (fun _ => False) w gm g (5 * (j + 1)) (recR hdV d 1 2).2 w2) := x2.more (by omega)
                have NM : Hid (MadeV hdV (j + 1) (recR hdV d 1 2).2) := HM.out.recover.more (by omega)
                clear x2 l2 HD HM cd ci cb ck s2 u2
                go_wp2_with fail
                refine ⟨⟨j + 1, by omega, by congr 1, _, NV, NM⟩, ?_⟩
                show l.length - ((j : Int) + 1).toNat < l.length - (j : Int).toNat
                omega
              · have e4' : decide (do_ = 4) = false := decide_eq_false e4
                have NV : Hid (VS (fun _ => False) w gm g (5 * (j + 1)) d wr) := HD.out.more (by omega)
                have NM : Hid (MadeV hdV (j + 1) d) := HM.out.more (by omega)
                go_wp2_with fail
                refine ⟨⟨j + 1, by omega, by congr 1, _, NV, NM⟩, ?_⟩
                show l.length - ((j : Int) + 1).toNat < l.length - (j : Int).toNat
                omega
      · have hd2 : decide ((j : Int) < (l.length : Int)) = false := by simp; omega
        have hd2' : ¬ (j : Int) < (l.length : Int) := by omega
        go_wp2
        go_ret
        exact .inr ⟨by omega, g, d, rfl, HD.out.devOf, HM.out.more (by omega)⟩
end Go.Proofs.YtpgbicbjlhkonaaDoor
end
section
namespace Go.Proofs.YtpgbicbjlhkonaaDoor
open Go.RowKit
set_option linter.unusedVariables false
set_option maxRecDepth 20000

def someV (n : Nat) (f : UInt8) : List UInt8 := (List.range n).map fun i => f + UInt8.ofNat i
theorem someV_len (n : Nat) (f : UInt8) : (someV n f).length = n := by simp [someV]
theorem someV_succ (n : Nat) (f : UInt8) : someV (n + 1) f = someV n f ++ [f + UInt8.ofNat n] := by
  unfold someV
  rw [List.range_succ, List.map_append]
  rfl
theorem add_byte8 (f : UInt8) (k : Nat) : IntKind.u8.wrap ((f.toNat : Int) + IntKind.u8.wrap (k : Int)) = ((f + UInt8.ofNat k).toNat : Int) := by
  rw [IntKind.wrap_u8, IntKind.wrap_u8, UInt8.toNat_add, UInt8.toNat_ofNat']
  have := f.toNat_lt
  omega
set_option maxHeartbeats 1000000 in
theorem some_any (w : World) (n : Nat) (f : UInt8) (hn : n ≤ 100000) :
    Calls Tryd.prog 21 #[.int .i64 (n : Int), .int .u8 (f.toNat : Int)] w (RetOwn w 5 (someV n f)) := by
  go_enter Tryd.func21, Tryd.ntmps21
  go_wp2_with fail
  go_loopw [5, 6] (fun v u wr => ∃ k : Nat, k ≤ n ∧ u = .int .i64 (k : Int) ∧ Hid (OwnB wr w.heap.size 5 v (someV k f)) ∧ Hid (Below w.heap.size w wr)) (fun _ u _ => n - (intOf u).toNat)
  case atStart => exact ⟨0, by omega, rfl, OwnB.nil _ _ _, Below.refl _ _⟩
  case round =>
    obtain ⟨k, hk, rfl, HO, HB⟩ := hrel
    obtain ⟨vA, vm, hvA, hv1, hv2⟩ := HO.out.shape
    subst hvA
    unfold maxLen at hv2
    have HLs : Hid ((someV k f).length = k) := someV_len k f
    by_cases hlt : k < n
    · have hd1 : decide ((k : Int) < (n : Int)) = true := by simp; omega
      have w5 : IntKind.i64.wrap ((k : Int) + 1) = (k : Int) + 1 := IntWalk.i64_in _ (by omega)
      have HX : Hid (someV (k + 1) f = someV k f ++ [f + UInt8.ofNat k]) := someV_succ k f
      have hsz := HB.out.size
      have hab := add_byte8 f k
      have hk8 : IntKind.u8.wrap (k : Int) = ((UInt8.ofNat k).toNat : Int) := by rw [IntKind.wrap_u8, UInt8.toNat_ofNat']; omega
      rw [hk8] at hab
      generalize UInt8.ofNat k = y at hab hk8 HX
      generalize f + y = z at hab HX
      go_wp2_with (at_builtin; refine wpList_appB _ rfl (.tmp 12) (.tmp 17) 23 rfl w 5 Tryd.infoB Tryd.underlying23 _ _ (someV k f) [z] rfl rfl (HO.out.alloc _) (Bs.lit1 _ _ _ _ rfl) (by rw [HLs.out]; simp; omega) (HB.out.alloc hsz _) ?_; intro v7 w7 o7 b7; have O7 := Lib.hid o7; have B7 := Lib.hid b7; clear o7 b7)
      have O8 : Hid (OwnB w7 w.heap.size 5 v7 (someV (k + 1) f)) := by show OwnB _ _ _ _ _; rw [HX.out]; exact O7.out
      refine ⟨⟨k + 1, by omega, by congr 1, O8, B7⟩, ?_⟩
      show n - ((k : Int) + 1).toNat < n - (k : Int).toNat
      omega
    · have hd1 : decide ((k : Int) < (n : Int)) = false := by simp; omega
      obtain rfl : k = n := by omega
      go_wp2
      go_ret
      exact ⟨_, rfl, HO.out, HB.out⟩
end Go.Proofs.YtpgbicbjlhkonaaDoor
end
section
namespace Go.Proofs.YtpgbicbjlhkonaaDoor
open Go.RowKit
set_option linter.unusedVariables false
set_option maxRecDepth 20000

set_option maxHeartbeats 8000000 in
theorem vawake_true (w : World) (ht : Tabs w) : Calls Tryd.prog 7 #[] w (RetV w (.bool true)) := by
  have HT := Lib.hid ht
  have HN : Hid (∀ w, Calls Tryd.prog 18 #[.int .i64 20] w fun e w' => ∃ g, e = .returned (.tuple #[.pointer (some ⟨g, 0, none⟩), .int .i64 0]) ∧ DevOf w w' g (Dev.new 20)) := fun w => devNew_of w 20 (by omega) (by omega)
  have HA0 : ∀ w, Calls Tryd.prog 21 #[.int .i64 300, .int .u8 1] w (RetOwn w 5 (someV 300 1)) := fun w => some_any w 300 1 (by omega)
  have HB0 : ∀ w, Calls Tryd.prog 21 #[.int .i64 200, .int .u8 5] w (RetOwn w 5 (someV 200 5)) := fun w => some_any w 200 5 (by omega)
  have HC0 : ∀ w, Calls Tryd.prog 21 #[.int .i64 500, .int .u8 9] w (RetOwn w 5 (someV 500 9)) := fun w => some_any w 500 9 (by omega)
  have lA : (someV 300 1).length = 300 := someV_len _ _
  have lB : (someV 200 5).length = 200 := someV_len _ _
  have lC : (someV 500 9).length = 500 := someV_len _ _
  generalize someV 300 1 = A0 at HA0 lA
  generalize someV 200 5 = B0 at HB0 lB
  generalize someV 500 9 = C0 at HC0 lC
  have HA := Lib.hid HA0
  have HB := Lib.hid HB0
  have HC := Lib.hid HC0
  have PP := awake_plain hdV_ok A0 B0 C0 (by omega) (by omega) (by omega) (by omega)
  clear HA0 HB0 HC0 lA lB lC ht
  have n0 : (Dev.new 20).now.length = 20 := List.length_replicate
  have p0 : (Dev.new 20).pend.length ≤ 201 := Nat.zero_le _
  have okN : (Dev.new 20).Ok := Dev.new_ok 20 (by omega) (by omega)
  have okS : ∀ (D : Dev) b, D.Ok → (saveR hdV D 1 2 b).2.Ok := fun D b h => by
    unfold saveR
    split
    · exact h
    · split
      · exact h
      · exact Dev.run_keeps_ok h _
  generalize hD0 : Dev.new 20 = D0 at PP HN n0 p0 okN
  obtain ⟨r1, hr1⟩ : ∃ r, r = saveR hdV D0 1 2 A0 := ⟨_, rfl⟩
  obtain ⟨r2, hr2⟩ : ∃ r, r = saveR hdV r1.2 1 2 B0 := ⟨_, rfl⟩
  obtain ⟨r3, hr3⟩ : ∃ r, r = saveR hdV (r2.2.set 3) 1 2 C0 := ⟨_, rfl⟩
  obtain ⟨r4, hr4⟩ : ∃ r, r = recR hdV (r3.2.crash []) 1 2 := ⟨_, rfl⟩
  simp only [← hr1, ← hr2, ← hr3, ← hr4] at PP
  obtain ⟨f1, f3, f4, f5, f8, f9, f10, n1, n2, n3, n4, p1, p2, p3, p4⟩ := PP
  have n2s : (r2.2.set 3).now.length = 20 := n2
  have p2s : (r2.2.set 3).pend.length ≤ 201 := p2
  have F1 : loadF hdV D0 1 2 = ([], 0, 62) := (loadF_12 n0).trans f1
  have F2 : saveF hdV D0 1 2 A0 = r1 := (saveF_12 n0 A0).trans hr1.symm
  have F3 : r1.1 = 0 := f3
  have F4 : loadF hdV r1.2 1 2 = (A0, 1, 0) := (loadF_12 n1).trans f4
  have F5 : staleF r1.2 1 2 = (true, 0) := by rw [staleF_12 n1, f5]
  have F6 : saveF hdV r1.2 1 2 B0 = r2 := (saveF_12 n1 B0).trans hr2.symm
  have F7 : saveF hdV (r2.2.set 3) 1 2 C0 = r3 := (saveF_12 n2s C0).trans hr3.symm
  have F8 : r3.1 = 61 := f8
  have hok1 : r1.2.Ok := by rw [hr1]; exact okS _ _ okN
  have hok2 : r2.2.Ok := by rw [hr2]; exact okS _ _ hok1
  have hok3 : r3.2.Ok := by rw [hr3]; exact okS _ _ (Dev.Ok.set hok2 (by omega))
  have F9 : recF hdV (r3.2.crash []) 1 2 = ((B0, 2, 0), r4.2) := by
    have n3c : (r3.2.crash []).now.length = 20 := (hok3.crash_now []).trans n3
    rw [recF_12 n3c, ← hr4]
    show (r4.1, r4.2) = _
    rw [f9]
  have F10 : staleF r4.2 1 2 = (true, 0) := by rw [staleF_12 n4, f10]
  have p3c : (r3.2.crash []).pend.length ≤ 201 := Nat.zero_le _
  clear okN okS hok1 hok2 hok3
  clear f1 f3 f4 f5 f8 f9 f10 hr1 hr2 hr3 hr4 n0 n1 n2 n3 n4 n2s hD0
  go_enter Tryd.func7, Tryd.ntmps7
  go_wp2_with fail
  refine (HN.out w).mono ?_
  rintro e w1 ⟨g, rfl, hd⟩
  have HD := Lib.hid hd
  clear hd HN
  go_wp2_with fail
  refine (meter_new w1).mono ?_
  rintro e w2 ⟨gm, rfl, hm⟩
  have V2 := Lib.hid (VS.start HT.out HD.out hm)
  clear hm HD
  go_wp2_with fail
  refine (vload_any V2.out (by omega) 1 2).mono ?_
  rintro e w3 ⟨q3, rfl, s3, u3, v3, l3⟩
  rw [F1] at s3 ⊢
  have V3 := Lib.hid v3
  have Sx_3 := Lib.hid s3
  have Ux_3 := Lib.hid u3
  obtain ⟨Ax, cx, rfl, _⟩ := s3.shape2
  clear s3 u3 v3 l3 V2
  clear Sx_3 Ux_3
  go_wp2_with fail
  refine (room_any w3 2).mono ?_
  rintro e w4 ⟨rfl, b4⟩
  have V4 := Lib.hid (V3.out.kept b4)
  have l4_ := Lk.of_below b4
  clear l4_
  clear b4 V3
  rw [show roomV 2 = 512 from rfl]
  go_wp2_with fail
  refine (HA.out w4).mono ?_
  rintro e w5 ⟨u5, rfl, o5, b5⟩
  have V5 := Lib.hid (V4.out.kept b5)
  have l5_ := Lk.of_below b5
  clear l5_
  have Sa_5 := Lib.hid o5.bs
  have Ua_5 := Lib.hid (U8At.of o5)
  obtain ⟨Aa, ca, rfl, _, _⟩ := o5.shape
  clear o5 b5 V4
  go_wp2_with fail
  refine (save_any V5.out (by omega) (by omega) 1 2 _ _ (stay_u8 Sa_5.out Ua_5.out)).mono ?_
  rintro e w6 ⟨rfl, v6, l6⟩
  rw [F2] at v6 ⊢
  rw [F3]
  have V6 := Lib.hid v6
  have Sa_6 := Lib.hid (l6.bs Sa_5.out Ua_5.out)
  have Ua_6 := Lib.hid (l6.u8 Ua_5.out)
  clear Sa_5 Ua_5
  clear v6 l6 V5
  go_wp2_with fail
  clear Sa_6 Ua_6
  refine (vload_any V6.out (by omega) 1 2).mono ?_
  rintro e w7 ⟨q7, rfl, s7, u7, v7, l7⟩
  rw [F4] at s7 ⊢
  have V7 := Lib.hid v7
  have Sy_7 := Lib.hid s7
  have Uy_7 := Lib.hid u7
  obtain ⟨Ay, cy, rfl, _⟩ := s7.shape2
  clear s7 u7 v7 l7 V6
  go_wp2_with fail
  refine (stale_any V7.out 1 2).mono ?_
  rintro e w8 ⟨rfl, v8, l8⟩
  rw [F5]
  have V8 := Lib.hid v8
  have Sy_8 := Lib.hid (l8.bs Sy_7.out Uy_7.out)
  have Uy_8 := Lib.hid (l8.u8 Uy_7.out)
  clear Sy_7 Uy_7
  clear v8 l8 V7
  go_wp2_with fail
  refine (HB.out w8).mono ?_
  rintro e w9 ⟨u9, rfl, o9, b9⟩
  have V9 := Lib.hid (V8.out.kept b9)
  have l9_ := Lk.of_below b9
  have Sy_9 := Lib.hid (l9_.bs Sy_8.out Uy_8.out)
  have Uy_9 := Lib.hid (l9_.u8 Uy_8.out)
  clear Sy_8 Uy_8
  clear l9_
  have Sb_9 := Lib.hid o9.bs
  have Ub_9 := Lib.hid (U8At.of o9)
  obtain ⟨Ab, cb, rfl, _, _⟩ := o9.shape
  clear o9 b9 V8
  go_wp2_with fail
  refine (save_any V9.out (by omega) (by omega) 1 2 _ _ (stay_u8 Sb_9.out Ub_9.out)).mono ?_
  rintro e w10 ⟨rfl, v10, l10⟩
  rw [F6] at v10 ⊢
  have V10 := Lib.hid v10
  have Sy_10 := Lib.hid (l10.bs Sy_9.out Uy_9.out)
  have Uy_10 := Lib.hid (l10.u8 Uy_9.out)
  have Sb_10 := Lib.hid (l10.bs Sb_9.out Ub_9.out)
  have Ub_10 := Lib.hid (l10.u8 Ub_9.out)
  clear Sy_9 Uy_9 Sb_9 Ub_9
  clear v10 l10 V9
  go_wp2_with fail
  clear Sb_10 Ub_10
  refine (V10.out.fuse 3 (by omega)).mono ?_
  rintro e w11 ⟨rfl, v11, l11⟩
  have V11 := Lib.hid v11
  have Sy_11 := Lib.hid (l11.bs Sy_10.out Uy_10.out)
  have Uy_11 := Lib.hid (l11.u8 Uy_10.out)
  clear Sy_10 Uy_10
  clear v11 l11 V10
  go_wp2_with fail
  refine (HC.out w11).mono ?_
  rintro e w12 ⟨u12, rfl, o12, b12⟩
  have V12 := Lib.hid (V11.out.kept b12)
  have l12_ := Lk.of_below b12
  have Sy_12 := Lib.hid (l12_.bs Sy_11.out Uy_11.out)
  have Uy_12 := Lib.hid (l12_.u8 Uy_11.out)
  clear Sy_11 Uy_11
  clear l12_
  have Sc_12 := Lib.hid o12.bs
  have Uc_12 := Lib.hid (U8At.of o12)
  obtain ⟨Ac, cc, rfl, _, _⟩ := o12.shape
  clear o12 b12 V11
  go_wp2_with fail
  refine (save_any V12.out (by omega) (by omega) 1 2 _ _ (stay_u8 Sc_12.out Uc_12.out)).mono ?_
  rintro e w13 ⟨rfl, v13, l13⟩
  rw [F7] at v13 ⊢
  rw [F8]
  have V13 := Lib.hid v13
  have Sy_13 := Lib.hid (l13.bs Sy_12.out Uy_12.out)
  have Uy_13 := Lib.hid (l13.u8 Uy_12.out)
  have Sc_13 := Lib.hid (l13.bs Sc_12.out Uc_12.out)
  have Uc_13 := Lib.hid (l13.u8 Uc_12.out)
  clear Sy_12 Uy_12 Sc_12 Uc_12
  clear v13 l13 V12
  go_wp2_with fail
  clear Sc_13 Uc_13
  refine (V13.out.crash _ [] (Bls.nil _) (by omega)).mono ?_
  rintro e w14 ⟨rfl, v14, l14⟩
  have V14 := Lib.hid v14
  have Sy_14 := Lib.hid (l14.bs Sy_13.out Uy_13.out)
  have Uy_14 := Lib.hid (l14.u8 Uy_13.out)
  clear Sy_13 Uy_13
  clear v14 l14 V13
  go_wp2_with fail
  refine (recover_any V14.out (by omega) (by omega) 1 2).mono ?_
  rintro e w15 ⟨q15, rfl, s15, u15, v15, l15⟩
  rw [F9] at s15 v15 ⊢
  have V15 := Lib.hid v15
  have Sy_15 := Lib.hid (l15.bs Sy_14.out Uy_14.out)
  have Uy_15 := Lib.hid (l15.u8 Uy_14.out)
  clear Sy_14 Uy_14
  have Sz_15 := Lib.hid s15
  have Uz_15 := Lib.hid u15
  obtain ⟨Az, cz, rfl, _⟩ := s15.shape2
  clear s15 u15 v15 l15 V14
  go_wp2_with fail
  refine (stale_any V15.out 1 2).mono ?_
  rintro e w16 ⟨rfl, v16, l16⟩
  rw [F10]
  have V16 := Lib.hid v16
  have Sy_16 := Lib.hid (l16.bs Sy_15.out Uy_15.out)
  have Uy_16 := Lib.hid (l16.u8 Uy_15.out)
  have Sz_16 := Lib.hid (l16.bs Sz_15.out Uz_15.out)
  have Uz_16 := Lib.hid (l16.u8 Uz_15.out)
  clear Sy_15 Uy_15 Sz_15 Uz_15
  clear v16 l16 V15
  go_wp2_with fail
  refine (HA.out w16).mono ?_
  rintro e w17 ⟨u17, rfl, o17, b17⟩
  have V17 := Lib.hid (V16.out.kept b17)
  have l17_ := Lk.of_below b17
  have Sy_17 := Lib.hid (l17_.bs Sy_16.out Uy_16.out)
  have Uy_17 := Lib.hid (l17_.u8 Uy_16.out)
  have Sz_17 := Lib.hid (l17_.bs Sz_16.out Uz_16.out)
  have Uz_17 := Lib.hid (l17_.u8 Uz_16.out)
  clear Sy_16 Uy_16 Sz_16 Uz_16
  clear l17_
  have Sp_17 := Lib.hid o17.bs
  have Up_17 := Lib.hid (U8At.of o17)
  obtain ⟨Ap, cp, rfl, _, _⟩ := o17.shape
  clear o17 b17 V16
  go_wp2_with fail
  refine (same_yes w17 _ _ A0 Sy_17.out Sp_17.out).mono ?_
  rintro e w18 ⟨rfl, b18⟩
  have V18 := Lib.hid (V17.out.kept b18)
  have l18_ := Lk.of_below b18
  have Sy_18 := Lib.hid (l18_.bs Sy_17.out Uy_17.out)
  have Uy_18 := Lib.hid (l18_.u8 Uy_17.out)
  have Sz_18 := Lib.hid (l18_.bs Sz_17.out Uz_17.out)
  have Uz_18 := Lib.hid (l18_.u8 Uz_17.out)
  have Sp_18 := Lib.hid (l18_.bs Sp_17.out Up_17.out)
  have Up_18 := Lib.hid (l18_.u8 Up_17.out)
  clear Sy_17 Uy_17 Sz_17 Uz_17 Sp_17 Up_17
  clear l18_
  clear b18 V17
  go_wp2_with fail
  clear Sy_18 Uy_18
  clear Sp_18 Up_18
  refine (HB.out w18).mono ?_
  rintro e w19 ⟨u19, rfl, o19, b19⟩
  have V19 := Lib.hid (V18.out.kept b19)
  have l19_ := Lk.of_below b19
  have Sz_19 := Lib.hid (l19_.bs Sz_18.out Uz_18.out)
  have Uz_19 := Lib.hid (l19_.u8 Uz_18.out)
  clear Sz_18 Uz_18
  clear l19_
  have Sr_19 := Lib.hid o19.bs
  have Ur_19 := Lib.hid (U8At.of o19)
  obtain ⟨Ar, cr, rfl, _, _⟩ := o19.shape
  clear o19 b19 V18
  go_wp2_with fail
  refine (same_yes w19 _ _ B0 Sz_19.out Sr_19.out).mono ?_
  rintro e w20 ⟨rfl, b20⟩
  have V20 := Lib.hid (V19.out.kept b20)
  have l20_ := Lk.of_below b20
  have Sz_20 := Lib.hid (l20_.bs Sz_19.out Uz_19.out)
  have Uz_20 := Lib.hid (l20_.u8 Uz_19.out)
  have Sr_20 := Lib.hid (l20_.bs Sr_19.out Ur_19.out)
  have Ur_20 := Lib.hid (l20_.u8 Ur_19.out)
  clear Sz_19 Uz_19 Sr_19 Ur_19
  clear l20_
  clear b20 V19
  have BB := Lib.hid V20.out.below
  go_wp2
  go_ret
  exact ⟨rfl, BB.out⟩
end Go.Proofs.YtpgbicbjlhkonaaDoor
end
section
namespace Go.Proofs.YtpgbicbjlhkonaaDoor
open Go.RowKit
set_option linter.unusedVariables false
set_option maxRecDepth 20000

structure D20 (d : Dev) : Prop where
  ok : d.Ok
  len : d.now.length = 20
section
variable {hd : Nat → List UInt8 → List UInt8} {d : Dev}
theorem D20.save (h : D20 d) (b : List UInt8) : D20 (saveR hd d 1 2 b).2 := by
  unfold saveR
  split
  · exact h
  · split
    · exact h
    · exact ⟨Dev.run_keeps_ok h.ok _, (Dev.run_keeps_len _ _).trans h.len⟩
theorem D20.rec_ (h : D20 d) : D20 (recR hd d 1 2).2 := by
  unfold recR
  split
  · exact h
  · split
    · exact ⟨Dev.run_keeps_ok h.ok _, (Dev.run_keeps_len _ _).trans h.len⟩
    · exact ⟨Dev.run_keeps_ok h.ok _, (Dev.run_keeps_len _ _).trans h.len⟩
theorem D20.crash (h : D20 d) (keep : List Bool) : D20 (d.crash keep) := ⟨h.ok.crash keep, (h.ok.crash_now keep).trans h.len⟩
theorem D20.set (h : D20 d) {n : Int} (hn : -9223372036854775808 ≤ n ∧ n ≤ 9223372036854775807) : D20 (d.set n) := ⟨h.ok.set hn, h.len⟩
end
end Go.Proofs.YtpgbicbjlhkonaaDoor
end
section
namespace Go.Proofs.YtpgbicbjlhkonaaDoor
open Go.RowKit
set_option linter.unusedVariables false
set_option maxRecDepth 20000

/-- A slice of elements of sz cells each: element j has the cells f j. -/
def Rx (w : World) (v : Value) (sz n : Nat) (f : Nat → List Value) : Prop :=
  ∃ A c, v = .slice A n c ∧ n ≤ c ∧ c ≤ maxLen ∧ (0 < n → ∃ b off, A = some ⟨b, off, none⟩ ∧ ∀ j, j < n → w.rangeAt b (off + j * sz) (f j))
section
variable {H : Type} {enc : TypeId × Value → H} {P : Program} {W : World} {base : Nat} {sp : Nat → Bool} {held : Bool}
theorem addr_add3 (g off : Nat) (i j : Nat) : ((⟨g, off, none⟩ : Addr).add i).add j = ⟨g, off + i + j, none⟩ := by
  have e1 : (⟨g, off, none⟩ : Addr).add i = ⟨g, off + i, none⟩ := by unfold Addr.add; split <;> simp_all
  rw [e1]
  unfold Addr.add
  split <;> simp_all
/-- A list of elements of sz cells: each element's cells, and that they are read. -/
theorem open_rx {t e : TypeId} {fuel : Nat} {cs : List Value} {x : DataW H × List MemPlace} {sz : Nat} (hs0 : 0 < sz)
    (ht : P.underlying t = some (.slice e)) (hce : P.cellsOf e = sz) (hone : ∀ n (c : List Value) y, c.length = sz → DataW.trod enc P W base sp held n e c = some y → c.length = sz) (h : DataW.trod enc P W base sp held fuel t cs = some x) :
    ∃ (v : Value) (n : Nat) (f : Nat → List Value), cs = [v] ∧ Rx W v sz n f ∧ ∀ j, j < n → (f j).length = sz ∧ ∃ m y, DataW.trod enc P W base sp held m e (f j) = some y := by
  rcases DataW.trod_slice ht h with ⟨rfl, _⟩ | ⟨a, len, cap, elems, rest, n, _, rfl, _, hba, hl, hm, hlen, hel, _, _⟩
  · exact ⟨_, 0, fun _ => [], rfl, ⟨none, 0, rfl, Nat.le_refl _, by simp [maxLen], fun h => by omega⟩, fun j hj => by omega⟩
  · have each : ∀ i, i < len → ∃ c : List Value, c.length = sz ∧ (∀ j, j < sz → W.cell? ((a.add (i * sz)).add j) = c[j]?) ∧ ∃ m y, DataW.trod enc P W base sp held m e c = some y := by
      intro i hi
      have h1 := hel i hi
      rw [hce, List.getElem?_eq_getElem (by omega), Option.bind_eq_some_iff] at h1
      obtain ⟨c, hc, ht2⟩ := h1
      obtain ⟨_, hcl, hcell⟩ := World.cells?_some hc
      exact ⟨c, hcl, hcell, n, _, ht2⟩
    refine ⟨_, len, fun j => if hj : j < len then (each j hj).choose else [], rfl, ⟨some a, cap, rfl, hl, hm, fun h0 => ?_⟩, fun j hj => ?_⟩
    · obtain ⟨g, off, spot⟩ := a
      have h1 := (each 0 h0).choose_spec
      have hc := h1.2.1 0 hs0
      rw [List.getElem?_eq_getElem (by rw [h1.1]; exact hs0)] at hc
      have hspot : spot = none := by simpa [Addr.add] using World.cell?_spot hc
      subst hspot
      refine ⟨g, off, rfl, fun k hk j u hj => ?_⟩
      simp only [dif_pos hk] at hj
      have hs := (each k hk).choose_spec
      have hj2 : j < sz := by
        have := (List.getElem?_eq_some_iff.1 hj).1
        rwa [hs.1] at this
      have h3 := hs.2.1 j hj2
      rw [addr_add3] at h3
      rw [h3, hj]
    · simp only [dif_pos hj]
      have hs := (each j hj).choose_spec
      exact ⟨hs.1, hs.2.2⟩
theorem open_bx {t e : TypeId} {fuel : Nat} {cs : List Value} {x : DataW H × List MemPlace} (ht : P.underlying t = some (.slice e)) (he : P.underlying e = some (.int .u8)) (hce : P.cellsOf e = 1) (h : DataW.trod enc P W base sp held fuel t cs = some x) :
    ∃ (v : Value) (l : List UInt8), cs = [v] ∧ Bs W v l := by
  obtain ⟨v, n, f, hcs, ⟨A, c, rfl, h1, h2, h3⟩, hf⟩ := open_rx (by omega) ht hce (fun _ _ _ h _ => h) h
  have each : ∀ j, j < n → ∃ b : UInt8, f j = [.int .u8 (b.toNat : Int)] := fun j hj => by
    obtain ⟨_, m, y, hy⟩ := hf j hj
    obtain ⟨z, hz, _, hwf⟩ := DataW.trod_int he hy
    exact ⟨UInt8.ofNat z.toNat, by rw [hz, u8_of_wf hwf]⟩
  refine ⟨_, List.ofFn fun i : Fin n => (each i.1 i.2).choose, hcs, A, c, by rw [List.length_ofFn], by rw [List.length_ofFn]; exact h1, h2, fun hl => ?_⟩
  rw [List.length_ofFn] at hl
  obtain ⟨b, off, hA, hc⟩ := h3 hl
  refine ⟨b, off, hA, fun j hj => ?_⟩
  rw [List.length_ofFn] at hj
  rw [List.getElem_ofFn]
  have hs := (each j hj).choose_spec
  have h4 := hc j hj 0 (.int .u8 ((each j hj).choose.toNat : Int)) (by have := congrArg (·[0]?) hs; simpa using this)
  rw [Nat.mul_one, Nat.add_zero] at h4
  exact h4
theorem open_bls {t e : TypeId} {fuel : Nat} {cs : List Value} {x : DataW H × List MemPlace} (ht : P.underlying t = some (.slice e)) (he : P.underlying e = some .bool) (hce : P.cellsOf e = 1) (h : DataW.trod enc P W base sp held fuel t cs = some x) :
    ∃ (v : Value) (l : List Bool), cs = [v] ∧ Bls W v l := by
  obtain ⟨v, n, f, hcs, ⟨A, c, rfl, h1, h2, h3⟩, hf⟩ := open_rx (by omega) ht hce (fun _ _ _ h _ => h) h
  have each : ∀ j, j < n → ∃ b : Bool, f j = [.bool b] := fun j hj => by
    obtain ⟨_, m, y, hy⟩ := hf j hj
    obtain ⟨z, hz, _⟩ := DataW.trod_bool he hy
    exact ⟨z, hz⟩
  refine ⟨_, List.ofFn fun i : Fin n => (each i.1 i.2).choose, hcs, A, c, by rw [List.length_ofFn], by rw [List.length_ofFn]; exact h1, h2, fun hl => ?_⟩
  rw [List.length_ofFn] at hl
  obtain ⟨b, off, hA, hc⟩ := h3 hl
  refine ⟨b, off, hA, fun j hj => ?_⟩
  rw [List.length_ofFn] at hj
  rw [List.getElem_ofFn]
  have hs := (each j hj).choose_spec
  have h4 := hc j hj 0 (.bool (each j hj).choose) (by have := congrArg (·[0]?) hs; simpa using this)
  rw [Nat.mul_one, Nat.add_zero] at h4
  exact h4
end
theorem five_cells {c : List Value} (h : c.length = 5) {a b d e f : Value} (h0 : (c.drop 0).take 1 = [a]) (h1 : (c.drop 1).take 1 = [b]) (h2 : (c.drop 2).take 1 = [d]) (h3 : (c.drop 3).take 1 = [e]) (h4 : (c.drop 4).take 1 = [f]) : c = [a, b, d, e, f] := by
  match c, h with
  | [x0, x1, x2, x3, x4], _ =>
    simp at h0 h1 h2 h3 h4
    rw [h0, h1, h2, h3, h4]
theorem open_opvs {H : Type} {enc : TypeId × Value → H} {W : World} {base : Nat} {sp : Nat → Bool} {held : Bool} {fuel : Nat} {cs : List Value} {x : DataW H × List MemPlace} (h : DataW.trod enc Tryd.prog W base sp held fuel 22 cs = some x) :
    ∃ (v : Value) (l : List OpV), cs = [v] ∧ Opvs W v l := by
  obtain ⟨v, n, f, hcs, ⟨A, c, rfl, h1, h2, h3⟩, hf⟩ := open_rx (sz := 5) (by omega) Tryd.underlying22 (by kernel_rfl) (fun _ _ _ h _ => h) h
  have each : ∀ j, j < n → ∃ (o : OpV) (vb vk : Value), f j = opvC o vb vk ∧ Bs W vb o.b ∧ Bls W vk o.keep ∧ (-9223372036854775808 ≤ o.n ∧ o.n ≤ 9223372036854775807) ∧ o.seq < 18446744073709551616 := fun j hj => by
    obtain ⟨hfl, m, y, hy⟩ := hf j hj
    obtain ⟨xs, m', _, _, _, hxl, hxe⟩ := DataW.trod_struct Tryd.underlying51 hy
    have f0 := hxe 0 _ rfl
    have f1 := hxe 1 _ rfl
    have f2 := hxe 2 _ rfl
    have f3 := hxe 3 _ rfl
    have f4 := hxe 4 _ rfl
    have hl5 : xs.length = 5 := hxl
    rw [List.getElem?_eq_getElem (by omega)] at f0 f1 f2 f3 f4
    obtain ⟨k, c0, _, w0⟩ := DataW.trod_int (k := .i64) Tryd.underlying3 f0
    obtain ⟨u, c1, _, w1⟩ := DataW.trod_int (k := .i64) Tryd.underlying3 f1
    obtain ⟨bv, b, c2, hb⟩ := open_bx Tryd.underlying23 Tryd.underlying5 (by kernel_rfl) f2
    obtain ⟨lv, l, c3, hl⟩ := open_bls Tryd.underlying24 Tryd.underlying4 (by kernel_rfl) f3
    obtain ⟨q, c4, _, w4⟩ := DataW.trod_int (k := .u64) Tryd.underlying31 f4
    obtain ⟨sq, rfl, hsq⟩ := u64_of_wf w4
    exact ⟨⟨k, u, b, l, sq⟩, bv, lv, five_cells hfl c0 c1 c2 c3 c4, hb, hl, i64_of_wf w1, hsq⟩
  refine ⟨_, List.ofFn fun i : Fin n => (each i.1 i.2).choose, hcs, A, c, by rw [List.length_ofFn], by rw [List.length_ofFn]; exact h1, h2, fun hl => ?_⟩
  rw [List.length_ofFn] at hl
  obtain ⟨b, off, hA, hc⟩ := h3 hl
  refine ⟨b, off, hA, fun j hj => ?_⟩
  rw [List.length_ofFn] at hj
  rw [List.getElem_ofFn]
  have hs := (each j hj).choose_spec.choose_spec.choose_spec
  refine ⟨_, _, ⟨?_, hs.2.1, hs.2.2.1, hs.2.2.2.1, hs.2.2.2.2⟩⟩
  have h4 := hc j hj
  rw [hs.1] at h4
  exact h4
end Go.Proofs.YtpgbicbjlhkonaaDoor
end
section
namespace Go.Proofs.YtpgbicbjlhkonaaDoor
open Go.ChangeShapes Go.WideShapes Go.ChangeAt Go.RowKit
set_option linter.unusedVariables false

theorem addr_one (g off k : Nat) : (⟨g, off, none⟩ : Addr).add k = ⟨g, off + k, none⟩ := by unfold Addr.add; split <;> simp_all
theorem open_one {H : Type} {enc : TypeId × Value → H} {P : Program} {W : World} {base : Nat} {held : Bool} {e b : TypeId} {fuel : Nat} {u : Value} {x : DataW H × List MemPlace}
    (he : P.underlying e = some (.slice b)) (hb : P.underlying b = some (.int .u8)) (hcb : P.cellsOf b = 1) (h : DataW.trod enc P W base (fun _ => true) held fuel e [u] = some x) : ∃ l : List UInt8, Bs W u l := by
  rcases open_ints he hb hcb h with ⟨hcs, _⟩ | ⟨x, l, c, zs, hcs, _, hl, hm, hz, _, hcell, hwz⟩
  · simp at hcs
    subst hcs
    exact ⟨[], Bs.nil W⟩
  · simp at hcs
    subst hcs
    exact bs_of_ints hl hm (by simpa using hz) hcell hwz
theorem open_bss {H : Type} {enc : TypeId × Value → H} {P : Program} {W : World} {base : Nat} {held : Bool} {t e b : TypeId} {fuel : Nat} {cs : List Value} {x : DataW H × List MemPlace}
    (ht : P.underlying t = some (.slice e)) (he : P.underlying e = some (.slice b)) (hb : P.underlying b = some (.int .u8)) (hcb : P.cellsOf b = 1) (hce : P.cellsOf e = 1) (h : DataW.trod enc P W base (fun _ => true) held fuel t cs = some x) :
    ∃ (v : Value) (L : List (List UInt8)), cs = [v] ∧ Bss W v L := by
  rcases DataW.trod_slice ht h with ⟨rfl, _⟩ | ⟨a, len, cap, elems, rest, n, _, rfl, _, hba, hl, hm, hlen, hel, _, _⟩
  · exact ⟨_, [], rfl, ⟨none, 0, rfl, Nat.le_refl _, by simp [maxLen], fun h => by simp at h⟩⟩
  · have each : ∀ i, i < len → ∃ (u : Value) (l : List UInt8), W.cell? (a.add i) = some u ∧ Bs W u l := by
      intro i hi
      have h1 := hel i hi
      rw [hce, List.getElem?_eq_getElem (by omega), Option.bind_eq_some_iff] at h1
      obtain ⟨c, hc, ht2⟩ := h1
      obtain ⟨_, hcl, hcell⟩ := World.cells?_some hc
      obtain ⟨u, rfl⟩ : ∃ u, c = [u] := by
        match c, hcl with
        | [u], _ => exact ⟨u, rfl⟩
      obtain ⟨l, hl2⟩ := open_one he hb hcb ht2
      refine ⟨u, l, ?_, hl2⟩
      have := hcell 0 (by omega)
      rw [Nat.mul_one] at this
      rw [show (a.add i).add 0 = a.add i by obtain ⟨g, off, spot⟩ := a; unfold Addr.add; split <;> simp_all] at this
      simpa using this
    refine ⟨_, List.ofFn fun i : Fin len => (each i.1 i.2).choose_spec.choose, rfl, some a, cap, by rw [List.length_ofFn], by rw [List.length_ofFn]; exact hl, hm, fun h0 => ?_⟩
    rw [List.length_ofFn] at h0
    obtain ⟨g, off, spot⟩ := a
    have hc := (each 0 h0).choose_spec.choose_spec.1
    have hspot : spot = none := by simpa [Addr.add] using World.cell?_spot hc
    subst hspot
    refine ⟨g, off, rfl, fun k hk => ?_⟩
    rw [List.length_ofFn] at hk
    have hs := (each k hk).choose_spec.choose_spec
    refine ⟨(each k hk).choose, ?_, ?_⟩
    · exact (by rw [addr_one] : W.cell? ⟨g, off + k, none⟩ = W.cell? ((⟨g, off, none⟩ : Addr).add k)).trans hs.1
    · rw [List.getElem_ofFn]
      exact hs.2
end Go.Proofs.YtpgbicbjlhkonaaDoor
end
