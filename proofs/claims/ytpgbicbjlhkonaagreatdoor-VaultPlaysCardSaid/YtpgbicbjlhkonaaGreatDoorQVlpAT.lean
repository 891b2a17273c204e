/-
  Texts that belong together, merged: VpQ, VpR, VltSo, VpS, VpT, DocA, DocB. Conditions: as each theorem names them.
-/
import Derived.Test.YtpgbicbjlhkonaaGreatDoorQVlpAS
import Derived.Test.YtpgbicbjlhkonaaGreatDoorQVlpAL
import Derived.Test.YtpgbicbjlhkonaaGreatDoorQVlpAH
import Derived.Test.YtpgbicbjlhkonaaGreatDoorQVlpAE
import Derived.Test.YtpgbicbjlhkonaaGreatDoorQVlpAF
section
namespace Go.Proofs.YtpgbicbjlhkonaaGreatDoor
open Go.RowKit
set_option linter.unusedVariables false
set_option maxRecDepth 20000

theorem wpListG_val {P : Program} {w : World} {ops : Array Oper} {rest : List Oper} {o : Oper} {a : Act} {Q : Exit → Act → World → Prop} (hw : Region.wanted o (yielded ops a.tmps) = true) (v : Value) (hr : (execOp a.eval o).run P w = .ok (.value v) w) (h : wpList P ops Q rest (a.put o.dst v) w) : wpList P ops Q (o :: rest) a w :=
  wpList_wanted hw fun _ hK => wp_val v hr (hK _ _ h)
section
variable {F : Nat → Prop} {xw w : World} {gm g M : Nat} {d : Dev}
set_option maxHeartbeats 4000000 in
theorem stale_ret (h : VS F xw gm g M d w) (at_ n : Int) :
    Calls Tryz.prog 24 #[.pointer (some ⟨g, 0, none⟩), .int .i64 at_, .int .i64 n] w (RetV w (.tuple #[.bool (staleF d at_ n).1, .int .i64 (staleF d at_ n).2])) := by
  have HSL : Hid (∀ y, VS F xw gm g M d y → Calls Tryz.prog 30 #[.pointer (some ⟨g, 0, none⟩), .int .i64 at_, .int .i64 n] y fun e z => e = .returned (.tuple #[.agg (if rightV d.now.length at_ n = 0 then twoL g at_.toNat n.toNat else zeroTwo), .int .i64 (rightV d.now.length at_ n)]) ∧ Below y.heap.size y z) := fun y h => slots_any h at_ n
  have HH := Lib.hid h
  have hmost := h.ok.most
  have hok := h.ok
  clear h hok
  by_cases hr : rightV d.now.length at_ n = 0
  · obtain ⟨A, N, rfl, rfl, hN1, hN2, hlen⟩ := right_nats hr
    rw [hr, if_pos rfl] at HSL
    simp only [Int.toNat_natCast] at HSL
    have HSF : Hid (staleF d (A : Int) (N : Int) = (cleanV d.now (A + 0 * (N + 1)) N || cleanV d.now (A + 1 * (N + 1)) N, 0)) := by show _ = _; unfold staleF; rw [if_pos hr]; rfl
    rw [HSF.out]
    have HC0 : Hid (∀ y, VS F xw gm g M d y → Calls Tryz.prog 48 #[.agg (slotAt g A N 0)] y (RetV y (.bool (cleanV d.now (A + 0 * (N + 1)) N)))) := fun y h => isClean_any h (A + 0 * (N + 1)) N hN2 (by omega)
    have HC1 : Hid (∀ y, VS F xw gm g M d y → Calls Tryz.prog 48 #[.agg (slotAt g A N 1)] y (RetV y (.bool (cleanV d.now (A + 1 * (N + 1)) N)))) := fun y h => isClean_any h (A + 1 * (N + 1)) N hN2 (by omega)
    generalize cleanV d.now (A + 0 * (N + 1)) N = c0 at *
    generalize cleanV d.now (A + 1 * (N + 1)) N = c1 at *
    clear hr HSF
    cases c0
    · clear hlen
      go_enter Tryz.func24, Tryz.ntmps24
      go_wp2_with fail
      refine (HSL.out w HH.out).mono ?_
      rintro e w3 ⟨rfl, b3⟩
      have B3 := Lib.hid b3
      clear b3 HSL
      go_wp2_with (first | ((with_reducible refine wpList_alloc_row (o := ⟨some 8, _, _, _, _, _⟩) rfl 85 rfl zeroTwo Tryz.zeroTwo_ ?_); intro g11 wa na; have NA := Lib.hid na; clear na) | ((with_reducible refine wpList_store_row (o := ⟨none, _, _, _, _, _⟩) rfl 85 (.tmp 8) (.tmp 14) rfl g11 85 zeroTwo (twoL g A N) (by with_unfolding_all rfl) (by with_unfolding_all rfl) NA.out.row rfl (by with_unfolding_all exact Tryz.sizeTwo) (by with_unfolding_all first | exact twoL_one g A N | exact zeroTwo_one) ?_); intro w4 p4; have V4 := Lib.hid (HH.out.kept (below_size B3.out (laid_put NA.out p4).1)); have L4 := Lib.hid (below_size B3.out (laid_put NA.out p4).1); have R11 := Lib.hid p4.row; clear p4 NA B3) | (with_reducible refine wpList_val (o := ⟨some 19, _, _, _, _, _⟩) rfl (.pointer (some ⟨g11, 0 * 3, none⟩)) (by exact run_idxArr 3 85 84 (.tmp 8) (.const (.int .i64 0)) rfl g11 2 0 (by with_unfolding_all rfl) (by with_unfolding_all rfl) (by omega) Tryz.underlying85 (Tryz.sizeSlot g A N)) ?_) | (with_reducible refine wpList_val (o := ⟨some 20, _, _, _, _, _⟩) rfl (.agg (slotAt g A N 0)) (by exact Tryz.run_loadTwo (.tmp 19) rfl g11 g A N 0 (by omega) (by with_unfolding_all rfl) R11.out) ?_))
      refine (HC0.out w4 V4.out).mono ?_
      rintro e5 w5 ⟨rfl, b5⟩
      have V5 := Lib.hid (V4.out.kept b5)
      have L5 := Lib.hid (below_size L4.out b5)
      have R15 := Lib.hid (R11.out.kept b5)
      clear b5 V4 L4 R11 HC0
      go_wp2_with (first | (with_reducible refine wpListG_val (o := ⟨some 23, _, _, _, _, _⟩) (by with_unfolding_all rfl) (.pointer (some ⟨g11, 1 * 3, none⟩)) (by exact run_idxArr 3 85 84 (.tmp 8) (.const (.int .i64 1)) rfl g11 2 1 (by with_unfolding_all rfl) (by with_unfolding_all rfl) (by omega) Tryz.underlying85 (Tryz.sizeSlot g A N)) ?_) | (with_reducible refine wpListG_val (o := ⟨some 24, _, _, _, _, _⟩) (by with_unfolding_all rfl) (.agg (slotAt g A N 1)) (by exact Tryz.run_loadTwo (.tmp 23) rfl g11 g A N 1 (by omega) (by with_unfolding_all rfl) R15.out) ?_))
      refine (HC1.out w5 V5.out).mono ?_
      rintro e6 w6 ⟨rfl, b6⟩
      have V6 := Lib.hid (V5.out.kept b6)
      have L6 := Lib.hid (below_size L5.out b6)
      clear b6 V5 L5 R15 HC1
      go_wp2
      go_ret2
      exact ⟨rfl, L6.out⟩
    · clear hlen HC1
      go_enter Tryz.func24, Tryz.ntmps24
      go_wp2_with fail
      refine (HSL.out w HH.out).mono ?_
      rintro e w3 ⟨rfl, b3⟩
      have B3 := Lib.hid b3
      clear b3 HSL
      go_wp2_with (first | ((with_reducible refine wpList_alloc_row (o := ⟨some 8, _, _, _, _, _⟩) rfl 85 rfl zeroTwo Tryz.zeroTwo_ ?_); intro g11 wa na; have NA := Lib.hid na; clear na) | ((with_reducible refine wpList_store_row (o := ⟨none, _, _, _, _, _⟩) rfl 85 (.tmp 8) (.tmp 14) rfl g11 85 zeroTwo (twoL g A N) (by with_unfolding_all rfl) (by with_unfolding_all rfl) NA.out.row rfl (by with_unfolding_all exact Tryz.sizeTwo) (by with_unfolding_all first | exact twoL_one g A N | exact zeroTwo_one) ?_); intro w4 p4; have V4 := Lib.hid (HH.out.kept (below_size B3.out (laid_put NA.out p4).1)); have L4 := Lib.hid (below_size B3.out (laid_put NA.out p4).1); have R11 := Lib.hid p4.row; clear p4 NA B3) | (with_reducible refine wpList_val (o := ⟨some 19, _, _, _, _, _⟩) rfl (.pointer (some ⟨g11, 0 * 3, none⟩)) (by exact run_idxArr 3 85 84 (.tmp 8) (.const (.int .i64 0)) rfl g11 2 0 (by with_unfolding_all rfl) (by with_unfolding_all rfl) (by omega) Tryz.underlying85 (Tryz.sizeSlot g A N)) ?_) | (with_reducible refine wpList_val (o := ⟨some 20, _, _, _, _, _⟩) rfl (.agg (slotAt g A N 0)) (by exact Tryz.run_loadTwo (.tmp 19) rfl g11 g A N 0 (by omega) (by with_unfolding_all rfl) R11.out) ?_))
      refine (HC0.out w4 V4.out).mono ?_
      rintro e5 w5 ⟨rfl, b5⟩
      have V5 := Lib.hid (V4.out.kept b5)
      have L5 := Lib.hid (below_size L4.out b5)
      have R15 := Lib.hid (R11.out.kept b5)
      clear b5 V4 L4 R11 HC0
      go_wp2
      go_ret2
      exact ⟨rfl, L5.out⟩
  · have e : Hid (staleF d at_ n = (false, rightV d.now.length at_ n)) := by show _ = _; unfold staleF; rw [if_neg hr]
    rw [e.out]
    rw [if_neg hr] at HSL
    generalize rightV d.now.length at_ n = r at *
    have hd1 : decide (r = 0) = false := decide_eq_false hr
    have hd2 : (r != 0) = true := by simp [hr]
    go_enter Tryz.func24, Tryz.ntmps24
    go_wp2_with fail
    refine (HSL.out w HH.out).mono ?_
    rintro e w3 ⟨rfl, b3⟩
    have B3 := Lib.hid b3
    clear b3 HSL
    go_wp2_with (first | ((with_reducible refine wpList_alloc_row (o := ⟨some 8, _, _, _, _, _⟩) rfl 85 rfl zeroTwo Tryz.zeroTwo_ ?_); intro g11 wa na; have NA := Lib.hid na; clear na) | ((with_reducible refine wpList_store_row (o := ⟨none, _, _, _, _, _⟩) rfl 85 (.tmp 8) (.tmp 14) rfl g11 85 zeroTwo zeroTwo (by with_unfolding_all rfl) (by with_unfolding_all rfl) NA.out.row rfl (by with_unfolding_all exact Tryz.sizeTwo) (by with_unfolding_all first | exact twoL_one g A N | exact zeroTwo_one) ?_); intro w4 p4; have V4 := Lib.hid (HH.out.kept (below_size B3.out (laid_put NA.out p4).1)); have L4 := Lib.hid (below_size B3.out (laid_put NA.out p4).1); have R11 := Lib.hid p4.row; clear p4 NA B3))
    go_ret2
    exact ⟨rfl, L4.out⟩
theorem stale_any (h : VS F xw gm g M d w) (at_ n : Int) :
    Calls Tryz.prog 24 #[.pointer (some ⟨g, 0, none⟩), .int .i64 at_, .int .i64 n] w fun e z => e = .returned (.tuple #[.bool (staleF d at_ n).1, .int .i64 (staleF d at_ n).2]) ∧ VS F xw gm g M d z ∧ Lk w z :=
  (stale_ret h at_ n).mono fun e z ⟨he, hb⟩ => ⟨he, h.kept hb, Lk.of_below hb⟩
end
end Go.Proofs.YtpgbicbjlhkonaaGreatDoor
end
section
namespace Go.Proofs.YtpgbicbjlhkonaaGreatDoor
open Go.RowKit
set_option linter.unusedVariables false
set_option maxRecDepth 20000

section
variable {x y z : World} {gm g N : Nat} {d : Dev}
/-- A crash, by what was there ahead of the device. -/
theorem VS.crash (h : VS (fun _ => False) x gm g N d y) (vk : Value) (keep : List Bool) (hk : Bls x vk keep) (hp : d.pend.length ≤ 1000000) :
    Calls Tryz.prog 12 #[.pointer (some ⟨g, 0, none⟩), vk] y fun e z => e = .returned (.tuple #[]) ∧ VS (fun _ => False) x gm g N (d.crash keep) z ∧ Lk y z := by
  have hb := h.below
  have hF : ∀ gn cn gs cs vp, DevIs y g gn cn gs cs vp d → ∀ k, k < x.heap.size → ¬ Foot g gn gs vp k := by
    obtain ⟨F', n, hn, ⟨⟨gn0, cn0, gs0, cs0, vp0, h0, hF0⟩, _⟩, _, h3⟩ := h
    intro gn cn gs cs vp h1 k hk hf
    have e := h0.row.symm.trans h1.row
    injection e with e
    injection e with e
    have e1 := congrArg (·[0]?) e
    have e2 := congrArg (·[1]?) e
    have e3 := congrArg (·[2]?) e
    simp at e1 e2 e3
    obtain ⟨rfl, rfl⟩ := e1
    obtain ⟨rfl, rfl⟩ := e2
    subst e3
    rcases h3 k (hF0 k hf) with h | h
    · exact h
    · omega
  exact h.ret fun gn cn gs cs vp hd => devCrash_any y g gn cn gs cs vp d hd vk keep (hk.below hb) (fun hl k hk2 hf => hF gn cn gs cs vp hd k (hk.low hl k hk2) hf) hp
end
/-- What is to be done. -/
structure OpV where
  do_ : Int
  n : Int
  b : List UInt8
  keep : List Bool
  seq : Nat
def opvC (o : OpV) (vb vk : Value) : List Value := [.int .i64 o.do_, .int .i64 o.n, vb, vk, .int .u64 (o.seq : Int)]
structure OpvAt (w : World) (b off : Nat) (o : OpV) (vb vk : Value) : Prop where
  at_ : w.rangeAt b off (opvC o vb vk)
  bs : Bs w vb o.b
  bls : Bls w vk o.keep
  low : -9223372036854775808 ≤ o.n ∧ o.n ≤ 9223372036854775807
  seq : o.seq < 18446744073709551616
def Opvs (w : World) (v : Value) (l : List OpV) : Prop :=
  ∃ A c, v = .slice A l.length c ∧ l.length ≤ c ∧ c ≤ maxLen ∧ (0 < l.length → ∃ b off, A = some ⟨b, off, none⟩ ∧ ∀ j (hj : j < l.length), ∃ vb vk, OpvAt w b (off + j * 5) l[j] vb vk)
theorem OpvAt.below {w w' : World} {b off : Nat} {o : OpV} {vb vk : Value} (h : OpvAt w b off o vb vk) (hb : Below w.heap.size w w') : OpvAt w' b off o vb vk where
  at_ j v hj := by
    have h1 := h.at_ j v hj
    rw [← h1]
    exact hb.cell (World.block_lt_of_cell? w _ h1)
  bs := h.bs.below hb
  bls := h.bls.below hb
  low := h.low
  seq := h.seq
theorem OpvAt.cell {w : World} {b off : Nat} {o : OpV} {vb vk : Value} (h : OpvAt w b off o vb vk) (i : Nat) (v : Value) (hv : (opvC o vb vk)[i]? = some v) : w.cell? ⟨b, off + i, none⟩ = some v := h.at_ i v hv
theorem Opvs.at_ {w : World} {A : Option Addr} {n c : Nat} {l : List OpV} (h : Opvs w (.slice A n c) l) (j : Nat) (hj : j < l.length) : ∃ b off, A = some ⟨b, off, none⟩ ∧ ∃ vb vk, OpvAt w b (off + j * 5) l[j] vb vk := by
  obtain ⟨A', c', hv, _, _, h3⟩ := h
  injection hv with e1 _ _
  obtain ⟨b, off, hA, hc⟩ := h3 (by omega)
  exact ⟨b, off, e1.trans hA, hc j hj⟩
theorem Opvs.below {w w' : World} {v : Value} {l : List OpV} (h : Opvs w v l) (hb : Below w.heap.size w w') : Opvs w' v l := by
  obtain ⟨A, c, hv, h1, h2, h3⟩ := h
  refine ⟨A, c, hv, h1, h2, fun hl => ?_⟩
  obtain ⟨b, off, hA, h4⟩ := h3 hl
  refine ⟨b, off, hA, fun j hj => ?_⟩
  obtain ⟨vb, vk, h5⟩ := h4 j hj
  exact ⟨vb, vk, h5.below hb⟩
theorem loadF_12 {d : Dev} (h : d.now.length = 20) : loadF hdV d 1 2 = loadV hdV d 1 2 := by unfold loadF; rw [if_pos (right_12 h)]; rfl
theorem saveF_12 {d : Dev} (h : d.now.length = 20) (b : List UInt8) : saveF hdV d 1 2 b = saveR hdV d 1 2 b := by unfold saveF; rw [if_pos (right_12 h)]; rfl
theorem recF_12 {d : Dev} (h : d.now.length = 20) : recF hdV d 1 2 = recR hdV d 1 2 := by unfold recF; rw [if_pos (right_12 h)]; rfl
theorem staleF_12 {d : Dev} (h : d.now.length = 20) : staleF d 1 2 = (cleanV d.now (lowOf 1 2 0) 2 || cleanV d.now (lowOf 1 2 1) 2, 0) := by unfold staleF; rw [if_pos (right_12 h)]; rfl
/-- Bytes of the law's arguments stay. -/
theorem stay_arg {x w : World} {gm g : Nat} {v : Value} {b : List UInt8} (h : Bs x v b) : Stay (fun _ => False) x gm g w v b := fun z N d hv _ => hv.old h fun _ _ _ hf => hf
theorem stay_u8 {F : Nat → Prop} {x w : World} {gm g : Nat} {v : Value} {b : List UInt8} (h : Bs w v b) (hu : U8At w v) : Stay F x gm g w v b := fun z N d hv hl => hl.bs h hu
theorem meter_new (w : World) : Calls Tryz.prog 7 #[.bool false] w fun e w' => ∃ g, e = .returned (.pointer (some ⟨g, 0, none⟩)) ∧ NewRow w g 82 (mC 0) w' := New_any w false
/-- What made hands back. -/
def MadeRet (w : World) (n : Nat) (e : Ending) (w' : World) : Prop := (12 < n ∧ e = .returned (.pointer none) ∧ Below w.heap.size w w') ∨ (n ≤ 12 ∧ ∃ g d, e = .returned (.pointer (some ⟨g, 0, none⟩)) ∧ DevOf w w' g d ∧ MadeV hdV 12 d)
end Go.Proofs.YtpgbicbjlhkonaaGreatDoor
end
section
namespace Go.Proofs.YtpgbicbjlhkonaaGreatDoor
open Go.RowKit
set_option linter.unusedVariables false
set_option maxRecDepth 20000

def someV (n : Nat) (f : UInt8) : List UInt8 := (List.range n).map fun i => f + UInt8.ofNat i
theorem someV_len (n : Nat) (f : UInt8) : (someV n f).length = n := by simp [someV]
theorem someV_succ (n : Nat) (f : UInt8) : someV (n + 1) f = someV n f ++ [f + UInt8.ofNat n] := by
  unfold someV
  rw [List.range_succ, List.map_append]
  rfl
theorem add_byte8 (f : UInt8) (k : Nat) : IntKind.u8.wrap ((f.toNat : Int) + IntKind.u8.wrap (k : Int)) = ((f + UInt8.ofNat k).toNat : Int) := by
  rw [IntKind.wrap_u8, IntKind.wrap_u8, UInt8.toNat_add, UInt8.toNat_ofNat']
  have := f.toNat_lt
  omega
set_option maxHeartbeats 1000000 in
theorem some_any (w : World) (n : Nat) (f : UInt8) (hn : n ≤ 100000) :
    Calls Tryz.prog 28 #[.int .i64 (n : Int), .int .u8 (f.toNat : Int)] w (RetOwn w 5 (someV n f)) := by
  go_enter Tryz.func28, Tryz.ntmps28
  go_wp2_with fail
  go_loopw [5, 6] (fun v u wr => ∃ k : Nat, k ≤ n ∧ u = .int .i64 (k : Int) ∧ Hid (OwnB wr w.heap.size 5 v (someV k f)) ∧ Hid (Below w.heap.size w wr)) (fun _ u _ => n - (intOf u).toNat)
  case atStart => exact ⟨0, by omega, rfl, OwnB.nil _ _ _, Below.refl _ _⟩
  case round =>
    obtain ⟨k, hk, rfl, HO, HB⟩ := hrel
    obtain ⟨vA, vm, hvA, hv1, hv2⟩ := HO.out.shape
    subst hvA
    unfold maxLen at hv2
    have HLs : Hid ((someV k f).length = k) := someV_len k f
    by_cases hlt : k < n
    · have hd1 : decide ((k : Int) < (n : Int)) = true := by simp; omega
      have w5 : IntKind.i64.wrap ((k : Int) + 1) = (k : Int) + 1 := IntWalk.i64_in _ (by omega)
      have HX : Hid (someV (k + 1) f = someV k f ++ [f + UInt8.ofNat k]) := someV_succ k f
      have hsz := HB.out.size
      have hab := add_byte8 f k
      have hk8 : IntKind.u8.wrap (k : Int) = ((UInt8.ofNat k).toNat : Int) := by rw [IntKind.wrap_u8, UInt8.toNat_ofNat']; omega
      rw [hk8] at hab
      generalize UInt8.ofNat k = y at hab hk8 HX
      generalize f + y = z at hab HX
      go_wp2_with (at_builtin; refine wpList_appB _ rfl (.tmp 12) (.tmp 17) 38 rfl w 5 Tryz.infoB Tryz.underlying38 _ _ (someV k f) [z] rfl rfl (HO.out.alloc _) (Bs.lit1 _ _ _ _ rfl) (by rw [HLs.out]; simp; omega) (HB.out.alloc hsz _) ?_; intro v7 w7 o7 b7; have O7 := Lib.hid o7; have B7 := Lib.hid b7; clear o7 b7)
      have O8 : Hid (OwnB w7 w.heap.size 5 v7 (someV (k + 1) f)) := by show OwnB _ _ _ _ _; rw [HX.out]; exact O7.out
      refine ⟨⟨k + 1, by omega, by congr 1, O8, B7⟩, ?_⟩
      show n - ((k : Int) + 1).toNat < n - (k : Int).toNat
      omega
    · have hd1 : decide ((k : Int) < (n : Int)) = false := by simp; omega
      obtain rfl : k = n := by omega
      go_wp2
      go_ret
      exact ⟨_, rfl, HO.out, HB.out⟩
end Go.Proofs.YtpgbicbjlhkonaaGreatDoor
end
section
namespace Go.Proofs.YtpgbicbjlhkonaaGreatDoor
open Go.RowKit
set_option linter.unusedVariables false
set_option maxRecDepth 20000

set_option maxHeartbeats 8000000 in
theorem vawake_true (w : World) (ht : Tabs w) : Calls Tryz.prog 4 #[] w (RetV w (.bool true)) := by
  have HT := Lib.hid ht
  have HN : Hid (∀ w, Calls Tryz.prog 5 #[.int .i64 20] w fun e w' => ∃ g, e = .returned (.tuple #[.pointer (some ⟨g, 0, none⟩), .int .i64 0]) ∧ DevOf w w' g (Dev.new 20)) := fun w => devNew_of w 20 (by omega) (by omega)
  have HA0 : ∀ w, Calls Tryz.prog 28 #[.int .i64 300, .int .u8 1] w (RetOwn w 5 (someV 300 1)) := fun w => some_any w 300 1 (by omega)
  have HB0 : ∀ w, Calls Tryz.prog 28 #[.int .i64 200, .int .u8 5] w (RetOwn w 5 (someV 200 5)) := fun w => some_any w 200 5 (by omega)
  have HC0 : ∀ w, Calls Tryz.prog 28 #[.int .i64 500, .int .u8 9] w (RetOwn w 5 (someV 500 9)) := fun w => some_any w 500 9 (by omega)
  have lA : (someV 300 1).length = 300 := someV_len _ _
  have lB : (someV 200 5).length = 200 := someV_len _ _
  have lC : (someV 500 9).length = 500 := someV_len _ _
  generalize someV 300 1 = A0 at HA0 lA
  generalize someV 200 5 = B0 at HB0 lB
  generalize someV 500 9 = C0 at HC0 lC
  have HA := Lib.hid HA0
  have HB := Lib.hid HB0
  have HC := Lib.hid HC0
  have PP := awake_plain hdV_ok A0 B0 C0 (by omega) (by omega) (by omega) (by omega)
  clear HA0 HB0 HC0 lA lB lC ht
  have n0 : (Dev.new 20).now.length = 20 := List.length_replicate
  have p0 : (Dev.new 20).pend.length ≤ 201 := Nat.zero_le _
  have okN : (Dev.new 20).Ok := Dev.new_ok 20 (by omega) (by omega)
  have okS : ∀ (D : Dev) b, D.Ok → (saveR hdV D 1 2 b).2.Ok := fun D b h => by
    unfold saveR
    split
    · exact h
    · split
      · exact h
      · exact Dev.run_keeps_ok h _
  generalize hD0 : Dev.new 20 = D0 at PP HN n0 p0 okN
  obtain ⟨r1, hr1⟩ : ∃ r, r = saveR hdV D0 1 2 A0 := ⟨_, rfl⟩
  obtain ⟨r2, hr2⟩ : ∃ r, r = saveR hdV r1.2 1 2 B0 := ⟨_, rfl⟩
  obtain ⟨r3, hr3⟩ : ∃ r, r = saveR hdV (r2.2.set 3) 1 2 C0 := ⟨_, rfl⟩
  obtain ⟨r4, hr4⟩ : ∃ r, r = recR hdV (r3.2.crash []) 1 2 := ⟨_, rfl⟩
  simp only [← hr1, ← hr2, ← hr3, ← hr4] at PP
  obtain ⟨f1, f3, f4, f5, f8, f9, f10, n1, n2, n3, n4, p1, p2, p3, p4⟩ := PP
  have n2s : (r2.2.set 3).now.length = 20 := n2
  have p2s : (r2.2.set 3).pend.length ≤ 201 := p2
  have F1 : loadF hdV D0 1 2 = ([], 0, 62) := (loadF_12 n0).trans f1
  have F2 : saveF hdV D0 1 2 A0 = r1 := (saveF_12 n0 A0).trans hr1.symm
  have F3 : r1.1 = 0 := f3
  have F4 : loadF hdV r1.2 1 2 = (A0, 1, 0) := (loadF_12 n1).trans f4
  have F5 : staleF r1.2 1 2 = (true, 0) := by rw [staleF_12 n1, f5]
  have F6 : saveF hdV r1.2 1 2 B0 = r2 := (saveF_12 n1 B0).trans hr2.symm
  have F7 : saveF hdV (r2.2.set 3) 1 2 C0 = r3 := (saveF_12 n2s C0).trans hr3.symm
  have F8 : r3.1 = 61 := f8
  have hok1 : r1.2.Ok := by rw [hr1]; exact okS _ _ okN
  have hok2 : r2.2.Ok := by rw [hr2]; exact okS _ _ hok1
  have hok3 : r3.2.Ok := by rw [hr3]; exact okS _ _ (Dev.Ok.set hok2 (by omega))
  have F9 : recF hdV (r3.2.crash []) 1 2 = ((B0, 2, 0), r4.2) := by
    have n3c : (r3.2.crash []).now.length = 20 := (hok3.crash_now []).trans n3
    rw [recF_12 n3c, ← hr4]
    show (r4.1, r4.2) = _
    rw [f9]
  have F10 : staleF r4.2 1 2 = (true, 0) := by rw [staleF_12 n4, f10]
  have p3c : (r3.2.crash []).pend.length ≤ 201 := Nat.zero_le _
  clear okN okS hok1 hok2 hok3
  clear f1 f3 f4 f5 f8 f9 f10 hr1 hr2 hr3 hr4 n0 n1 n2 n3 n4 n2s hD0
  go_enter Tryz.func4, Tryz.ntmps4
  go_wp2_with fail
  refine (HN.out w).mono ?_
  rintro e w1 ⟨g, rfl, hd⟩
  have HD := Lib.hid hd
  clear hd HN
  go_wp2_with fail
  refine (meter_new w1).mono ?_
  rintro e w2 ⟨gm, rfl, hm⟩
  have V2 := Lib.hid (VS.start HT.out HD.out hm)
  clear hm HD
  go_wp2_with fail
  refine (vload_any V2.out (by omega) 1 2).mono ?_
  rintro e w3 ⟨q3, rfl, s3, u3, v3, l3⟩
  rw [F1] at s3 ⊢
  have V3 := Lib.hid v3
  have Sx_3 := Lib.hid s3
  have Ux_3 := Lib.hid u3
  obtain ⟨Ax, cx, rfl, _⟩ := s3.shape2
  clear s3 u3 v3 l3 V2
  clear Sx_3 Ux_3
  go_wp2_with fail
  refine (room_any w3 2).mono ?_
  rintro e w4 ⟨rfl, b4⟩
  have V4 := Lib.hid (V3.out.kept b4)
  have l4_ := Lk.of_below b4
  clear l4_
  clear b4 V3
  rw [show roomV 2 = 512 from rfl]
  go_wp2_with fail
  refine (HA.out w4).mono ?_
  rintro e w5 ⟨u5, rfl, o5, b5⟩
  have V5 := Lib.hid (V4.out.kept b5)
  have l5_ := Lk.of_below b5
  clear l5_
  have Sa_5 := Lib.hid o5.bs
  have Ua_5 := Lib.hid (U8At.of o5)
  obtain ⟨Aa, ca, rfl, _, _⟩ := o5.shape
  clear o5 b5 V4
  go_wp2_with fail
  refine (save_any V5.out (by omega) (by omega) 1 2 _ _ (stay_u8 Sa_5.out Ua_5.out)).mono ?_
  rintro e w6 ⟨rfl, v6, l6⟩
  rw [F2] at v6 ⊢
  rw [F3]
  have V6 := Lib.hid v6
  have Sa_6 := Lib.hid (l6.bs Sa_5.out Ua_5.out)
  have Ua_6 := Lib.hid (l6.u8 Ua_5.out)
  clear Sa_5 Ua_5
  clear v6 l6 V5
  go_wp2_with fail
  clear Sa_6 Ua_6
  refine (vload_any V6.out (by omega) 1 2).mono ?_
  rintro e w7 ⟨q7, rfl, s7, u7, v7, l7⟩
  rw [F4] at s7 ⊢
  have V7 := Lib.hid v7
  have Sy_7 := Lib.hid s7
  have Uy_7 := Lib.hid u7
  obtain ⟨Ay, cy, rfl, _⟩ := s7.shape2
  clear s7 u7 v7 l7 V6
  go_wp2_with fail
  refine (stale_any V7.out 1 2).mono ?_
  rintro e w8 ⟨rfl, v8, l8⟩
  rw [F5]
  have V8 := Lib.hid v8
  have Sy_8 := Lib.hid (l8.bs Sy_7.out Uy_7.out)
  have Uy_8 := Lib.hid (l8.u8 Uy_7.out)
  clear Sy_7 Uy_7
  clear v8 l8 V7
  go_wp2_with fail
  refine (HB.out w8).mono ?_
  rintro e w9 ⟨u9, rfl, o9, b9⟩
  have V9 := Lib.hid (V8.out.kept b9)
  have l9_ := Lk.of_below b9
  have Sy_9 := Lib.hid (l9_.bs Sy_8.out Uy_8.out)
  have Uy_9 := Lib.hid (l9_.u8 Uy_8.out)
  clear Sy_8 Uy_8
  clear l9_
  have Sb_9 := Lib.hid o9.bs
  have Ub_9 := Lib.hid (U8At.of o9)
  obtain ⟨Ab, cb, rfl, _, _⟩ := o9.shape
  clear o9 b9 V8
  go_wp2_with fail
  refine (save_any V9.out (by omega) (by omega) 1 2 _ _ (stay_u8 Sb_9.out Ub_9.out)).mono ?_
  rintro e w10 ⟨rfl, v10, l10⟩
  rw [F6] at v10 ⊢
  have V10 := Lib.hid v10
  have Sy_10 := Lib.hid (l10.bs Sy_9.out Uy_9.out)
  have Uy_10 := Lib.hid (l10.u8 Uy_9.out)
  have Sb_10 := Lib.hid (l10.bs Sb_9.out Ub_9.out)
  have Ub_10 := Lib.hid (l10.u8 Ub_9.out)
  clear Sy_9 Uy_9 Sb_9 Ub_9
  clear v10 l10 V9
  go_wp2_with fail
  clear Sb_10 Ub_10
  refine (V10.out.fuse 3 (by omega)).mono ?_
  rintro e w11 ⟨rfl, v11, l11⟩
  have V11 := Lib.hid v11
  have Sy_11 := Lib.hid (l11.bs Sy_10.out Uy_10.out)
  have Uy_11 := Lib.hid (l11.u8 Uy_10.out)
  clear Sy_10 Uy_10
  clear v11 l11 V10
  go_wp2_with fail
  refine (HC.out w11).mono ?_
  rintro e w12 ⟨u12, rfl, o12, b12⟩
  have V12 := Lib.hid (V11.out.kept b12)
  have l12_ := Lk.of_below b12
  have Sy_12 := Lib.hid (l12_.bs Sy_11.out Uy_11.out)
  have Uy_12 := Lib.hid (l12_.u8 Uy_11.out)
  clear Sy_11 Uy_11
  clear l12_
  have Sc_12 := Lib.hid o12.bs
  have Uc_12 := Lib.hid (U8At.of o12)
  obtain ⟨Ac, cc, rfl, _, _⟩ := o12.shape
  clear o12 b12 V11
  go_wp2_with fail
  refine (save_any V12.out (by omega) (by omega) 1 2 _ _ (stay_u8 Sc_12.out Uc_12.out)).mono ?_
  rintro e w13 ⟨rfl, v13, l13⟩
  rw [F7] at v13 ⊢
  rw [F8]
  have V13 := Lib.hid v13
  have Sy_13 := Lib.hid (l13.bs Sy_12.out Uy_12.out)
  have Uy_13 := Lib.hid (l13.u8 Uy_12.out)
  have Sc_13 := Lib.hid (l13.bs Sc_12.out Uc_12.out)
  have Uc_13 := Lib.hid (l13.u8 Uc_12.out)
  clear Sy_12 Uy_12 Sc_12 Uc_12
  clear v13 l13 V12
  go_wp2_with fail
  clear Sc_13 Uc_13
  refine (V13.out.crash _ [] (Bls.nil _) (by omega)).mono ?_
  rintro e w14 ⟨rfl, v14, l14⟩
  have V14 := Lib.hid v14
  have Sy_14 := Lib.hid (l14.bs Sy_13.out Uy_13.out)
  have Uy_14 := Lib.hid (l14.u8 Uy_13.out)
  clear Sy_13 Uy_13
  clear v14 l14 V13
  go_wp2_with fail
  refine (recover_any V14.out (by omega) (by omega) 1 2).mono ?_
  rintro e w15 ⟨q15, rfl, s15, u15, v15, l15⟩
  rw [F9] at s15 v15 ⊢
  have V15 := Lib.hid v15
  have Sy_15 := Lib.hid (l15.bs Sy_14.out Uy_14.out)
  have Uy_15 := Lib.hid (l15.u8 Uy_14.out)
  clear Sy_14 Uy_14
  have Sz_15 := Lib.hid s15
  have Uz_15 := Lib.hid u15
  obtain ⟨Az, cz, rfl, _⟩ := s15.shape2
  clear s15 u15 v15 l15 V14
  go_wp2_with fail
  refine (stale_any V15.out 1 2).mono ?_
  rintro e w16 ⟨rfl, v16, l16⟩
  rw [F10]
  have V16 := Lib.hid v16
  have Sy_16 := Lib.hid (l16.bs Sy_15.out Uy_15.out)
  have Uy_16 := Lib.hid (l16.u8 Uy_15.out)
  have Sz_16 := Lib.hid (l16.bs Sz_15.out Uz_15.out)
  have Uz_16 := Lib.hid (l16.u8 Uz_15.out)
  clear Sy_15 Uy_15 Sz_15 Uz_15
  clear v16 l16 V15
  go_wp2_with fail
  refine (HA.out w16).mono ?_
  rintro e w17 ⟨u17, rfl, o17, b17⟩
  have V17 := Lib.hid (V16.out.kept b17)
  have l17_ := Lk.of_below b17
  have Sy_17 := Lib.hid (l17_.bs Sy_16.out Uy_16.out)
  have Uy_17 := Lib.hid (l17_.u8 Uy_16.out)
  have Sz_17 := Lib.hid (l17_.bs Sz_16.out Uz_16.out)
  have Uz_17 := Lib.hid (l17_.u8 Uz_16.out)
  clear Sy_16 Uy_16 Sz_16 Uz_16
  clear l17_
  have Sp_17 := Lib.hid o17.bs
  have Up_17 := Lib.hid (U8At.of o17)
  obtain ⟨Ap, cp, rfl, _, _⟩ := o17.shape
  clear o17 b17 V16
  go_wp2_with fail
  refine (same_yes w17 _ _ A0 Sy_17.out Sp_17.out).mono ?_
  rintro e w18 ⟨rfl, b18⟩
  have V18 := Lib.hid (V17.out.kept b18)
  have l18_ := Lk.of_below b18
  have Sy_18 := Lib.hid (l18_.bs Sy_17.out Uy_17.out)
  have Uy_18 := Lib.hid (l18_.u8 Uy_17.out)
  have Sz_18 := Lib.hid (l18_.bs Sz_17.out Uz_17.out)
  have Uz_18 := Lib.hid (l18_.u8 Uz_17.out)
  have Sp_18 := Lib.hid (l18_.bs Sp_17.out Up_17.out)
  have Up_18 := Lib.hid (l18_.u8 Up_17.out)
  clear Sy_17 Uy_17 Sz_17 Uz_17 Sp_17 Up_17
  clear l18_
  clear b18 V17
  go_wp2_with fail
  clear Sy_18 Uy_18
  clear Sp_18 Up_18
  refine (HB.out w18).mono ?_
  rintro e w19 ⟨u19, rfl, o19, b19⟩
  have V19 := Lib.hid (V18.out.kept b19)
  have l19_ := Lk.of_below b19
  have Sz_19 := Lib.hid (l19_.bs Sz_18.out Uz_18.out)
  have Uz_19 := Lib.hid (l19_.u8 Uz_18.out)
  clear Sz_18 Uz_18
  clear l19_
  have Sr_19 := Lib.hid o19.bs
  have Ur_19 := Lib.hid (U8At.of o19)
  obtain ⟨Ar, cr, rfl, _, _⟩ := o19.shape
  clear o19 b19 V18
  go_wp2_with fail
  refine (same_yes w19 _ _ B0 Sz_19.out Sr_19.out).mono ?_
  rintro e w20 ⟨rfl, b20⟩
  have V20 := Lib.hid (V19.out.kept b20)
  have l20_ := Lk.of_below b20
  have Sz_20 := Lib.hid (l20_.bs Sz_19.out Uz_19.out)
  have Uz_20 := Lib.hid (l20_.u8 Uz_19.out)
  have Sr_20 := Lib.hid (l20_.bs Sr_19.out Ur_19.out)
  have Ur_20 := Lib.hid (l20_.u8 Ur_19.out)
  clear Sz_19 Uz_19 Sr_19 Ur_19
  clear l20_
  clear b20 V19
  have BB := Lib.hid V20.out.below
  go_wp2
  go_ret
  exact ⟨rfl, BB.out⟩
end Go.Proofs.YtpgbicbjlhkonaaGreatDoor
end
section
namespace Go.Proofs.YtpgbicbjlhkonaaGreatDoor
open Go.RowKit
set_option linter.unusedVariables false
set_option maxRecDepth 20000

structure D20 (d : Dev) : Prop where
  ok : d.Ok
  len : d.now.length = 20
section
variable {hd : Nat → List UInt8 → List UInt8} {d : Dev}
theorem D20.save (h : D20 d) (b : List UInt8) : D20 (saveR hd d 1 2 b).2 := by
  unfold saveR
  split
  · exact h
  · split
    · exact h
    · exact ⟨Dev.run_keeps_ok h.ok _, (Dev.run_keeps_len _ _).trans h.len⟩
theorem D20.rec_ (h : D20 d) : D20 (recR hd d 1 2).2 := by
  unfold recR
  split
  · exact h
  · split
    · exact ⟨Dev.run_keeps_ok h.ok _, (Dev.run_keeps_len _ _).trans h.len⟩
    · exact ⟨Dev.run_keeps_ok h.ok _, (Dev.run_keeps_len _ _).trans h.len⟩
theorem D20.crash (h : D20 d) (keep : List Bool) : D20 (d.crash keep) := ⟨h.ok.crash keep, (h.ok.crash_now keep).trans h.len⟩
theorem D20.set (h : D20 d) {n : Int} (hn : -9223372036854775808 ≤ n ∧ n ≤ 9223372036854775807) : D20 (d.set n) := ⟨h.ok.set hn, h.len⟩
end
end Go.Proofs.YtpgbicbjlhkonaaGreatDoor
end
section
namespace Go.Proofs.YtpgbicbjlhkonaaGreatDoor
open Go.RowKit
set_option linter.unusedVariables false
set_option maxRecDepth 20000

/-- The document's device as plain data: what it answers hangs on this alone. -/
structure Ab where
  sure : List (List UInt8)
  pend : List (Nat × List UInt8)
  fused : Bool
  left : Int
  gone : Bool
def Ab.goes (a : Ab) : Bool := !(a.gone || (a.fused && decide (a.left = 0)))
def Ab.spend (a : Ab) : Ab := { a with gone := !a.goes, left := if a.gone then (if a.fused && decide (0 < a.left) then a.left - 1 else a.left) else if a.goes && a.fused then a.left - 1 else a.left }
def Ab.has (a : Ab) (i : Int) : Bool := decide (0 ≤ i) && decide (i < (a.sure.length : Int))
def Ab.writeE (a : Ab) (i : Int) (b : List UInt8) : Int := if a.has i = false then 60 else if 256 < b.length then 2 else if a.goes then 0 else 61
def Ab.write (a : Ab) (i : Int) (b : List UInt8) : Ab := if a.has i = false then a else if 256 < b.length then a else if a.goes then { a.spend with pend := a.pend ++ [(i.toNat, pad b)] } else a.spend
def Ab.all (a : Ab) : List (List UInt8) := doneTo (fun _ => true) a.pend a.sure a.pend.length
def Ab.syncE (a : Ab) : Int := if a.goes then 0 else 61
def Ab.sync (a : Ab) : Ab := if a.goes then { a.spend with sure := a.all, pend := [] } else a.spend
def Ab.crash (a : Ab) (keep : List Bool) : Ab := { a with sure := doneTo (fun k => keep.getD k false) a.pend a.sure a.pend.length, pend := [], fused := false, gone := false }
def Ab.set (a : Ab) (n : Int) : Ab := { a with fused := decide (0 ≤ n), left := n }
def Ab.new (n : Nat) : Ab := ⟨List.replicate n zeroSec, [], false, 0, false⟩

/-- Both are one device. -/
structure Sim (d : Dev) (a : Ab) : Prop where
  sure : a.sure = d.sure
  pend : a.pend = d.pend
  now : d.now = doneTo (fun _ => true) d.pend d.sure d.pend.length
  gone : a.gone = d.burnt
  fuse : d.burnt = false → a.fused = d.there ∧ (d.there = true → a.left = d.left)
  ok : d.Ok
  left : -9223372036854775808 ≤ a.left ∧ a.left ≤ 9223372036854775807
section
variable {d : Dev} {a : Ab}
theorem Sim.goes (h : Sim d a) : a.goes = d.goes := by
  unfold Ab.goes Dev.goes
  rw [h.gone]
  cases hb : d.burnt
  · obtain ⟨h1, h2⟩ := h.fuse hb
    rw [h1]
    cases ht : d.there
    · rfl
    · rw [h2 ht]
  · rfl
theorem Ab.spend_left (hl : -9223372036854775808 ≤ a.left ∧ a.left ≤ 9223372036854775807) (hf : a.goes = true → a.fused = true → 0 ≤ a.left) : -9223372036854775808 ≤ a.spend.left ∧ a.spend.left ≤ 9223372036854775807 := by
  show -9223372036854775808 ≤ (if a.gone then (if a.fused && decide (0 < a.left) then a.left - 1 else a.left) else if a.goes && a.fused then a.left - 1 else a.left) ∧ (if a.gone then (if a.fused && decide (0 < a.left) then a.left - 1 else a.left) else if a.goes && a.fused then a.left - 1 else a.left) ≤ _
  split
  · split
    · rename_i hc
      simp only [Bool.and_eq_true, decide_eq_true_eq] at hc
      omega
    · exact hl
  · split
    · rename_i hc
      simp only [Bool.and_eq_true] at hc
      have := hf hc.1 hc.2
      omega
    · exact hl
theorem Sim.spend (h : Sim d a) : Sim d.spend a.spend where
  sure := h.sure
  pend := h.pend
  now := h.now
  gone := by show (!a.goes) = !d.goes; rw [h.goes]
  fuse hb := by
    have hg : d.goes = true := by
      have : d.spend.burnt = !d.goes := rfl
      rw [this] at hb
      simpa using hb
    have hb0 : d.burnt = false := by
      cases hb : d.burnt
      · rfl
      · simp [Dev.goes, hb] at hg
    obtain ⟨h1, h2⟩ := h.fuse hb0
    have hag : a.gone = false := h.gone.trans hb0
    refine ⟨h1, fun ht => ?_⟩
    have ht' : d.there = true := ht
    show (if a.gone then (if a.fused && decide (0 < a.left) then a.left - 1 else a.left) else if a.goes && a.fused then a.left - 1 else a.left) = (if d.goes && d.there then d.left - 1 else d.left)
    rw [hag, h.goes, hg, h1, ht', h2 ht']
    rfl
  ok := h.ok.spend
  left := Ab.spend_left h.left fun hg hf => by
    rw [h.goes] at hg
    have hb0 : d.burnt = false := by
      cases hb : d.burnt
      · rfl
      · simp [Dev.goes, hb] at hg
    obtain ⟨h1, h2⟩ := h.fuse hb0
    rw [h1] at hf
    rw [h2 hf]
    exact h.ok.fuse hf
theorem Sim.len (h : Sim d a) : a.sure.length = d.now.length := by rw [h.sure, h.ok.same]
theorem Sim.has (h : Sim d a) (i : Int) : a.has i = d.has i := by unfold Ab.has Dev.has; rw [h.len]
theorem Sim.writeE (h : Sim d a) (i : Int) (b : List UInt8) : a.writeE i b = d.writeE i b := by unfold Ab.writeE Dev.writeE; rw [h.has, h.goes]
theorem Sim.write (h : Sim d a) (i : Int) (b : List UInt8) : Sim (d.write i b) (a.write i b) := by
  unfold Dev.write Ab.write
  rw [h.has, h.goes]
  split
  · exact h
  · rename_i hi
    split
    · exact h
    · rename_i hb
      split
      · have hs := h.spend
        have hi2 := Dev.has_lt (d := d) (by simpa using hi)
        have hk := hs.ok.put (i := i.toNat) hi2.2 (pad_length (b := b) (by omega))
        refine ⟨hs.sure, ?_, ?_, hs.gone, hs.fuse, hk, hs.left⟩
        · show a.pend ++ _ = d.pend ++ _
          rw [h.pend]
        · show d.now.set _ _ = doneTo _ (d.pend ++ _) d.sure (d.pend ++ _).length
          rw [doneTo_snoc _ _ _ _ rfl, ← h.now]
      · exact h.spend
theorem Sim.all (h : Sim d a) : a.all = d.now := by unfold Ab.all; rw [h.pend, h.sure, ← h.now]
theorem Sim.syncE (h : Sim d a) : a.syncE = d.syncE := by unfold Ab.syncE Dev.syncE; rw [h.goes]
theorem Sim.sync (h : Sim d a) : Sim d.sync a.sync := by
  have hk := h.ok.sync
  unfold Dev.sync Ab.sync
  unfold Dev.sync at hk
  rw [h.goes]
  split
  · rename_i hg
    rw [if_pos hg] at hk
    have hs := h.spend
    exact ⟨h.all, rfl, rfl, hs.gone, hs.fuse, hk, hs.left⟩
  · exact h.spend
theorem Sim.crash (h : Sim d a) (keep : List Bool) : Sim (d.crash keep) (a.crash keep) := by
  refine ⟨?_, rfl, rfl, rfl, fun _ => ⟨rfl, fun h => nomatch h⟩, h.ok.crash keep, h.left⟩
  show doneTo _ a.pend a.sure a.pend.length = doneTo _ d.pend d.sure d.pend.length
  rw [h.pend, h.sure]
theorem Sim.set (h : Sim d a) {n : Int} (hn : -9223372036854775808 ≤ n ∧ n ≤ 9223372036854775807) : Sim (d.set n) (a.set n) :=
  ⟨h.sure, h.pend, h.now, h.gone, fun _ => ⟨rfl, fun _ => rfl⟩, h.ok.set hn, hn⟩
theorem Sim.new (n : Nat) (h1 : 1 ≤ n) (h2 : n ≤ 600) : Sim (Dev.new n) (Ab.new n) := ⟨rfl, rfl, rfl, rfl, fun _ => ⟨rfl, fun h => nomatch h⟩, Dev.new_ok n h1 h2, by simp [Ab.new]⟩
end
/-- The last write to a sector is what is read. -/
theorem doneTo_last (p : List (Nat × List UInt8)) (s : List (List UInt8)) (i k n : Nat) (x : Nat × List UInt8) (hi : i < s.length) (hk : p[k]? = some x) (hx : x.1 = i) (hkn : k < n) (hn : n ≤ p.length) (hlast : ∀ j y, k < j → j < n → p[j]? = some y → y.1 ≠ i) : (doneTo (fun _ => true) p s n)[i]? = some x.2 := by
  induction n with
  | zero => omega
  | succ n ih =>
    obtain ⟨y, hy⟩ : ∃ y, p[n]? = some y := ⟨_, List.getElem?_eq_getElem (by omega)⟩
    rw [doneTo_step _ _ _ n y hy, if_pos rfl, List.getElem?_set]
    by_cases hkn2 : k = n
    · subst hkn2
      have e := hk.symm.trans hy
      injection e with e
      subst e
      rw [if_pos hx, if_pos (by rw [doneTo_length]; omega)]
    · have hne := hlast n y (by omega) (by omega) hy
      rw [if_neg hne]
      exact ih (by omega) (by omega) fun j z h1 h2 h3 => hlast j z h1 (by omega) h3
theorem doneTo_never (p : List (Nat × List UInt8)) (s : List (List UInt8)) (i n : Nat) (hn : n ≤ p.length) (hno : ∀ j y, j < n → p[j]? = some y → y.1 ≠ i) : (doneTo (fun _ => true) p s n)[i]? = s[i]? := by
  induction n with
  | zero => rfl
  | succ n ih =>
    obtain ⟨y, hy⟩ : ∃ y, p[n]? = some y := ⟨_, List.getElem?_eq_getElem (by omega)⟩
    rw [doneTo_step _ _ _ n y hy, if_pos rfl, List.getElem?_set, if_neg (hno n y (by omega) hy)]
    exact ih (by omega) fun j z h1 h2 => hno j z (by omega) h2
end Go.Proofs.YtpgbicbjlhkonaaGreatDoor
end
section
namespace Go.Proofs.YtpgbicbjlhkonaaGreatDoor
open Go.RowKit
set_option linter.unusedVariables false
set_option maxRecDepth 20000

/-- Bytes that lie in a block of R, if anywhere. -/
def InR (w : World) (R : Nat → Prop) (u : Value) (l : List UInt8) : Prop := Bs w u l ∧ ∀ k, u.ownBlock = some k → R k
/-- The cells of a list of writes. -/
def pC (ps : List (Nat × List UInt8 × Value)) : List Value := (ps.map fun x => [Value.int .i64 (x.1 : Int), x.2.2]).flatten
/-- A slice of cells that lies in a block of R. -/
def Row_ (w : World) (R : Nat → Prop) (v : Value) (n : Nat) (cs : List Value) : Prop :=
  ∃ A c, v = .slice A n c ∧ n ≤ c ∧ c ≤ maxLen ∧ (0 < n → ∃ b off, A = some ⟨b, off, none⟩ ∧ R b ∧ w.rangeAt b off cs)
structure DocIs (w : World) (R : Nat → Prop) (g : Nat) (vs vp : Value) (ss : List (List UInt8 × Value)) (ps : List (Nat × List UInt8 × Value)) (a : Ab) : Prop where
  row : RowAt w g 68 #[vs, vp, .bool a.fused, .int .i64 a.left, .bool a.gone]
  free : ¬ R g
  sure : Row_ w R vs ss.length (ss.map (·.2))
  pend : Row_ w R vp ps.length (pC ps)
  each : ∀ x ∈ ss, InR w R x.2 x.1
  every : ∀ x ∈ ps, InR w R x.2.2 x.2.1
  isS : a.sure = ss.map (·.1)
  isP : a.pend = ps.map fun x => (x.1, x.2.1)
def DocIn (w : World) (R : Nat → Prop) (g : Nat) (a : Ab) : Prop := ∃ vs vp ss ps, DocIs w R g vs vp ss ps a
section
variable {w w' : World} {R F : Nat → Prop} {g : Nat} {vs vp : Value} {ss : List (List UInt8 × Value)} {ps : List (Nat × List UInt8 × Value)} {a : Ab}
theorem InR.turned {u : Value} {l : List UInt8} (h : InR w R u l) (ht : Turns F w w') (hF : ∀ k, R k → ¬ F k) : InR w' R u l := ⟨ht.bs h.1 fun k hk => hF k (h.2 k hk), h.2⟩
theorem InR.mono {R' : Nat → Prop} {u : Value} {l : List UInt8} (h : InR w R u l) (hR : ∀ k, R k → R' k) : InR w R' u l := ⟨h.1, fun k hk => hR k (h.2 k hk)⟩
theorem Row_.turned {v : Value} {n : Nat} {cs : List Value} (h : Row_ w R v n cs) (ht : Turns F w w') (hF : ∀ k, R k → ¬ F k) : Row_ w' R v n cs := by
  obtain ⟨A, c, rfl, h1, h2, h3⟩ := h
  refine ⟨A, c, rfl, h1, h2, fun hn => ?_⟩
  obtain ⟨b, off, hA, hR, hc⟩ := h3 hn
  exact ⟨b, off, hA, hR, fun j v hj => ht.cell (hc j v hj) (hF b hR)⟩
theorem Row_.mono {R' : Nat → Prop} {v : Value} {n : Nat} {cs : List Value} (h : Row_ w R v n cs) (hR : ∀ k, R k → R' k) : Row_ w R' v n cs := by
  obtain ⟨A, c, rfl, h1, h2, h3⟩ := h
  refine ⟨A, c, rfl, h1, h2, fun hn => ?_⟩
  obtain ⟨b, off, hA, hb, hc⟩ := h3 hn
  exact ⟨b, off, hA, hR b hb, hc⟩
theorem Row_.nil (w : World) (R : Nat → Prop) : Row_ w R (.slice none 0 0) 0 [] := ⟨none, 0, rfl, Nat.le_refl _, by simp [maxLen], fun h => absurd h (by omega)⟩
theorem Row_.of_own {base size n m : Nat} {e : TypeId} {v : Value} {cs : List Value} (h : w.ownsRow base e size v n cs) (hn : n = m) (hR : ∀ k, v.ownBlock = some k → R k) : Row_ w R v m cs := by
  subst hn
  have hx := h.1
  rcases h.2 with ⟨rfl, h0⟩ | ⟨g, cap, cur, rfl, hb, hg, h1, h2, h3, h4⟩
  · subst h0
    have : cs = [] := List.eq_nil_of_length_eq_zero (by omega)
    subst this
    exact Row_.nil _ _
  · refine ⟨_, cap, rfl, h1, h2, fun _ => ⟨g, 0, rfl, hR g rfl, fun j u hj => ?_⟩⟩
    rw [RowAt.cell hg, Nat.zero_add]
    rw [← h4, List.getElem?_take] at hj
    split at hj
    · simpa using hj
    · cases hj
theorem Row_.shape {v : Value} {n : Nat} {cs : List Value} (h : Row_ w R v n cs) : ∃ A c, v = .slice A n c ∧ n ≤ c ∧ c ≤ maxLen := by
  obtain ⟨A, c, hv, h1, h2, _⟩ := h
  exact ⟨A, c, hv, h1, h2⟩
theorem DocIs.turned (h : DocIs w R g vs vp ss ps a) (ht : Turns F w w') (hF : ∀ k, R k → ¬ F k) (hg : ¬ F g) : DocIs w' R g vs vp ss ps a :=
  ⟨ht.row h.row hg, h.free, h.sure.turned ht hF, h.pend.turned ht hF, fun x hx => (h.each x hx).turned ht hF, fun x hx => (h.every x hx).turned ht hF, h.isS, h.isP⟩
theorem DocIs.kept (h : DocIs w R g vs vp ss ps a) (hb : Below w.heap.size w w') : DocIs w' R g vs vp ss ps a := h.turned (F := fun _ => False) (Turns.of_below _ hb) (fun _ _ h => h) fun h => h
/-- Its own row is written. -/
theorem DocIs.rowed (h : DocIs w R g vs vp ss ps a) (hg : w.grownBy w' (some g)) {a' : Ab} (hr : RowAt w' g 68 #[vs, vp, .bool a'.fused, .int .i64 a'.left, .bool a'.gone]) (h1 : a'.sure = a.sure) (h2 : a'.pend = a.pend) : DocIs w' R g vs vp ss ps a' := by
  have ht : Turns (fun k => k = g) w w' := Turns.of_grown hg fun k hk => (Option.some.inj hk).symm
  have hF : ∀ k, R k → ¬ k = g := fun k hk e => h.free (e ▸ hk)
  exact ⟨hr, h.free, h.sure.turned ht hF, h.pend.turned ht hF, fun x hx => (h.each x hx).turned ht hF, fun x hx => (h.every x hx).turned ht hF, h1.trans h.isS, h2.trans h.isP⟩
theorem DocIs.cell (h : DocIs w R g vs vp ss ps a) (i : Nat) (v : Value) (hv : (#[vs, vp, .bool a.fused, .int .i64 a.left, .bool a.gone] : Array Value)[i]? = some v) : w.cell? ⟨g, i, none⟩ = some v := (h.row.cell i).trans hv
theorem DocIs.lenS (h : DocIs w R g vs vp ss ps a) : a.sure.length = ss.length := by rw [h.isS, List.length_map]
theorem DocIs.lenP (h : DocIs w R g vs vp ss ps a) : a.pend.length = ps.length := by rw [h.isP, List.length_map]
theorem pC_get {k : Nat} {x : Nat × List UInt8 × Value} (hx : ps[k]? = some x) : (pC ps)[k * 2]? = some (.int .i64 (x.1 : Int)) ∧ (pC ps)[k * 2 + 1]? = some x.2.2 := by
  have hall : ∀ l ∈ ps.map (fun x : Nat × List UInt8 × Value => [Value.int .i64 (x.1 : Int), x.2.2]), l.length = 2 := by
    intro l hl
    obtain ⟨y, _, rfl⟩ := List.mem_map.1 hl
    rfl
  have hp := dflat_part (n := 2) hall (i := k) (l := [Value.int .i64 (x.1 : Int), x.2.2]) (by rw [List.getElem?_map, hx]; rfl)
  have h0 := congrArg (fun l => l[0]?) hp
  have h1 := congrArg (fun l => l[1]?) hp
  simp only [List.getElem?_take, List.getElem?_drop] at h0 h1
  unfold pC
  exact ⟨by simpa using h0, by simpa using h1⟩
theorem pC_length : (pC ps).length = ps.length * 2 := by
  unfold pC
  rw [dflat_length (n := 2) fun l hl => by obtain ⟨y, _, rfl⟩ := List.mem_map.1 hl; rfl, List.length_map]
theorem pC_snoc (x : Nat × List UInt8 × Value) : pC (ps ++ [x]) = pC ps ++ [.int .i64 (x.1 : Int), x.2.2] := by simp [pC]
end

set_option maxHeartbeats 1000000 in
theorem full_any (w : World) (v : Value) (l : List UInt8) (h : Bs w v l) (hl : l.length ≤ 256) :
    Calls Tryz.prog 29 #[v] w fun e w' => ∃ v', e = .returned v' ∧ OwnB w' w.heap.size 5 v' (pad l) ∧ Below w.heap.size w w' := by
  have HH := Lib.hid h
  have E : Hid (OwnB (w.alloc (.cells #[] 5)) w.heap.size 5 (.slice (some ⟨w.heap.size, 0, none⟩) 0 0) []) := World.ownsRow_lit (base := w.heap.size) (e := 5) (size := 1) w #[] 0 (Nat.le_refl _) (by simp [maxLen]) rfl
  have NB := Lib.hid (new_below w (.cells #[] 5))
  clear h
  go_enter Tryz.func29, Tryz.ntmps29
  go_wp2_with (at_builtin; refine wpList_appB _ (o := ⟨some 6, _, _, _, _, _⟩) rfl (.tmp 4) (.tmp 5) 38 rfl w 5 (by kernel_rfl) Tryz.underlying38 _ _ [] l rfl rfl E.out (HH.out.below NB.out) (by simp; omega) NB.out ?_; intro v6 w6 own6 b6)
  have O6 : Hid (OwnB w6 w.heap.size 5 v6 (l ++ List.replicate 0 0)) := by
    have := own6
    rw [List.nil_append] at this
    show OwnB w6 w.heap.size 5 v6 (l ++ List.replicate 0 0)
    rw [List.replicate_zero, List.append_nil]
    exact this
  clear own6 E NB
  go_loopw [3] (fun u wr => ∃ k : Nat, k ≤ 256 - l.length ∧ Hid (OwnB wr w.heap.size 5 u (l ++ List.replicate k 0)) ∧ Hid (Below w.heap.size w wr)) (fun u wr => match u with | .slice _ n _ => 256 - n | _ => 0)
  case atStart => exact ⟨0, by omega, O6.out, b6⟩
  case round =>
    obtain ⟨k, hk, HO, HB⟩ := hrel
    clear O6 b6
    have hlk : (l ++ List.replicate k (0 : UInt8)).length = l.length + k := by rw [List.length_append, List.length_replicate]
    obtain ⟨A, c, hv⟩ := HO.out.bs.shape2
    rw [hlk] at hv
    subst hv
    by_cases hlt : l.length + k < 256
    · have hd : decide (((l.length + k : Nat) : Int) < 256) = true := by simp; omega
      have EZ : Hid (l ++ List.replicate k 0 ++ [0] = l ++ List.replicate (k + 1) 0) := by show _ = _; rw [List.append_assoc, ← List.replicate_succ']
      go_wp2_with (at_builtin; refine wpList_appB _ (o := ⟨some 12, _, _, _, _, _⟩) rfl (.tmp 10) (.tmp 11) 38 rfl w 5 (by kernel_rfl) Tryz.underlying38 _ _ (l ++ List.replicate k 0) [0] rfl rfl (HO.out.below (new_below _ _)) (Bs.lit1 wr _ 0 _ rfl) (by rw [hlk]; simp; omega) (below_size HB.out (new_below _ _)) ?_; intro v7 w7 own7 b7)
      have O7 := Lib.hid own7
      rw [EZ.out] at O7
      obtain ⟨A7, c7, hv7⟩ := O7.out.bs.shape2
      have hl7 : (l ++ List.replicate (k + 1) (0 : UInt8)).length = l.length + k + 1 := by rw [List.length_append, List.length_replicate]; omega
      rw [hl7] at hv7
      refine ⟨⟨k + 1, by omega, O7, b7⟩, ?_⟩
      rw [hv7]
      show 256 - (l.length + k + 1) < 256 - (l.length + k)
      omega
    · have hd : decide (((l.length + k : Nat) : Int) < 256) = false := by simp; omega
      have hk2 : k = 256 - l.length := by omega
      subst hk2
      go_wp2
      go_ret
      exact ⟨_, rfl, HO.out, HB.out⟩
section
variable (w : World) (R : Nat → Prop) (g : Nat) (vs vp : Value) (ss : List (List UInt8 × Value)) (ps : List (Nat × List UInt8 × Value)) (a : Ab)
theorem docLen_any (h : DocIs w R g vs vp ss ps a) : Calls Tryz.prog 64 #[.pointer (some ⟨g, 0, none⟩)] w (RetV w (.int .i64 (a.sure.length : Int))) := by
  have c0 := h.cell 0 _ rfl
  obtain ⟨A, c, hv, _⟩ := h.sure.shape
  rw [h.lenS]
  rw [hv] at c0
  clear h hv
  go_enter Tryz.func64, Tryz.ntmps64
  go_wp2
  go_ret
  exact ⟨rfl, Below.refl _ _⟩
theorem docFuse_any (h : DocIs w R g vs vp ss ps a) (n : Int) : Calls Tryz.prog 15 #[.pointer (some ⟨g, 0, none⟩), .int .i64 n] w fun e w' => e = .returned (.tuple #[]) ∧ DocIs w' R g vs vp ss ps (a.set n) ∧ w.grownBy w' (some g) := by
  have HH := Lib.hid h
  have c2 := h.cell 2 _ rfl
  have c3 := h.cell 3 _ rfl
  have z2 := h.row.frozen 2
  have z3 := h.row.frozen 3
  clear h
  go_enter Tryz.func15, Tryz.ntmps15
  go_wp2
  go_end0
  exact ⟨rfl, HH.out.rowed ((grown_setCell _ _ _ _).trans (grown_setCell _ _ _ _)) ((HH.out.row.put 2 _).put 3 _) rfl rfl, (grown_setCell _ _ _ _).trans (grown_setCell _ _ _ _)⟩
theorem docDone_any (h : DocIs w R g vs vp ss ps a) (hl : -9223372036854775808 ≤ a.left ∧ a.left ≤ 9223372036854775807) (hf : a.goes = true → a.fused = true → 0 ≤ a.left) : Calls Tryz.prog 52 #[.pointer (some ⟨g, 0, none⟩)] w fun e w' => e = .returned (.bool a.goes) ∧ DocIs w' R g vs vp ss ps a.spend ∧ w.grownBy w' (some g) := by
  have HH := Lib.hid h
  have c2 := h.cell 2 _ rfl
  have c3 := h.cell 3 _ rfl
  have c4 := h.cell 4 _ rfl
  have z3 := h.row.frozen 3
  have z4 := h.row.frozen 4
  clear h
  obtain ⟨sure, pend, fused, left, gone⟩ := a
  simp only at *
  have HF := Lib.hid hf
  clear hf
  rcases gone with _ | _
  · rcases fused with _ | _
    · go_enter Tryz.func52, Tryz.ntmps52
      go_wp2
      go_ret
      exact ⟨rfl, HH.out.rowed (World.grownBy.refl _ _) HH.out.row rfl rfl, World.grownBy.refl _ _⟩
    · by_cases h0 : left = 0
      · subst h0
        go_enter Tryz.func52, Tryz.ntmps52
        go_wp2
        go_ret
        exact ⟨rfl, HH.out.rowed (grown_setCell _ _ _ _) (HH.out.row.put 4 _) rfl rfl, grown_setCell _ _ _ _⟩
      · have hd : decide (left = 0) = false := decide_eq_false h0
        have e1 : Hid (Ab.goes ⟨sure, pend, true, left, false⟩ = true) := by show _ = _; simp [Ab.goes, h0]
        have h1 := HF.out e1.out rfl
        have e2 : Hid (Ab.spend ⟨sure, pend, true, left, false⟩ = ⟨sure, pend, true, left - 1, false⟩) := by show _ = _; unfold Ab.spend; rw [e1.out]; rfl
        have hw : IntKind.i64.wrap (left - 1) = left - 1 := IntWalk.i64_in _ (by omega)
        go_enter Tryz.func52, Tryz.ntmps52
        go_wp2
        go_ret
        rw [e1.out, e2.out]
        exact ⟨rfl, HH.out.rowed (grown_setCell _ _ _ _) (HH.out.row.put 3 _) rfl rfl, grown_setCell _ _ _ _⟩
  · rcases fused with _ | _
    · go_enter Tryz.func52, Tryz.ntmps52
      go_wp2
      go_ret
      exact ⟨rfl, HH.out.rowed (World.grownBy.refl _ _) HH.out.row rfl rfl, World.grownBy.refl _ _⟩
    · by_cases h0 : 0 < left
      · have hd : decide (0 < left) = true := decide_eq_true h0
        have e2 : Hid (Ab.spend ⟨sure, pend, true, left, true⟩ = ⟨sure, pend, true, left - 1, true⟩) := by show _ = _; simp [Ab.spend, Ab.goes, h0]
        have hw : IntKind.i64.wrap (left - 1) = left - 1 := IntWalk.i64_in _ (by omega)
        go_enter Tryz.func52, Tryz.ntmps52
        go_wp2
        go_ret
        rw [e2.out]
        exact ⟨rfl, HH.out.rowed (grown_setCell _ _ _ _) (HH.out.row.put 3 _) rfl rfl, grown_setCell _ _ _ _⟩
      · have hd : decide (0 < left) = false := decide_eq_false h0
        have e2 : Hid (Ab.spend ⟨sure, pend, true, left, true⟩ = ⟨sure, pend, true, left, true⟩) := by show _ = _; simp [Ab.spend, Ab.goes, h0]
        go_enter Tryz.func52, Tryz.ntmps52
        go_wp2
        go_ret
        rw [e2.out]
        exact ⟨rfl, HH.out, World.grownBy.refl _ _⟩
end
end Go.Proofs.YtpgbicbjlhkonaaGreatDoor
end
