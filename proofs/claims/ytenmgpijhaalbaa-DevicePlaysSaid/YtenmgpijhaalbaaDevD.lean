/-
  Contracts of a device's Sync, Fuse and Read. Conditions: as each theorem names them.
-/
import Derived.Test.YtenmgpijhaalbaaDevC
import Derived.Test.YtenmgpijhaalbaaD
namespace Go.Proofs.Ytenmgpijhaalbaa
open Go.RowKit
set_option linter.unusedVariables false
set_option maxRecDepth 20000

theorem DevIs.cleared {w : World} {g gn cn gs cs : Nat} {vp : Value} {d : Dev} (h : DevIs w g gn cn gs cs vp d) (hok : ({ d with pend := [] } : Dev).Ok) :
    DevIs (w.setCell ⟨g, 2, none⟩ (.slice none 0 0)) g gn cn gs cs (.slice none 0 0) { d with pend := [] } ∧ Turns (Foot g gn gs vp) w (w.setCell ⟨g, 2, none⟩ (.slice none 0 0)) :=
  h.appended (p := []) (World.ownsRow_nil _ _ _ _) (Turns.refl _ _) hok
theorem Dev.Ok.synced {d : Dev} (h : d.Ok) : ({ d.spend with sure := d.now } : Dev).Ok := ⟨rfl, h.least, h.most, h.now, h.now, h.pend, h.spend.left, h.spend.fuse⟩
theorem Dev.Ok.cleared {d : Dev} (h : d.Ok) : ({ d with pend := [] } : Dev).Ok := ⟨h.same, h.least, h.most, h.now, h.sure, fun x hx => (nomatch hx), h.left, h.fuse⟩

set_option maxHeartbeats 2000000 in
theorem devSync_any (w : World) (g gn cn gs cs : Nat) (vp : Value) (d : Dev) (h : DevIs w g gn cn gs cs vp d) :
    Calls Try.prog 13 #[.pointer (some ⟨g, 0, none⟩)] w (DevRet w g gn cn gs cs vp d.sync (.int .i64 d.syncE)) := by
  have H2 : Hid (∀ w, DevIs w g gn cn gs cs vp d → Calls Try.prog 31 #[.pointer (some ⟨g, 3, none⟩)] w fun e w' => e = .returned (.bool d.goes) ∧ DevIs w' g gn cn gs cs vp d.spend ∧ w.grownBy w' (some g)) := fun w h => devSpend_any w g gn cn gs cs vp d h
  have HH := Lib.hid h
  clear h
  by_cases hg : d.goes = true
  · have e1 : Hid (d.syncE = 0) := by show _ = _; unfold Dev.syncE; rw [if_pos hg]
    have e2 : Hid (d.sync = { d.spend with sure := d.now, pend := [] }) := by show _ = _; unfold Dev.sync; rw [if_pos hg]
    rw [hg] at H2
    go_enter Try.func13, Try.ntmps13
    go_wp2_with fail
    refine (H2.out _ HH.out).mono ?_
    rintro e w1 ⟨rfl, h1, g1⟩
    have D1 := Lib.hid h1
    have T1 : Hid (Turns (Foot g gn gs vp) w w1) := foot_grown g1
    clear h1 g1
    go_wp2_with fail
    have c0 : w1.cell? ⟨g, 0, none⟩ = some (.slice (some ⟨gn, 0, none⟩) d.now.length cn) := D1.out.cell 0 _ rfl
    have c1 : w1.cell? ⟨g, 1, none⟩ = some (.slice (some ⟨gs, 0, none⟩) d.now.length cs) := D1.out.cell 1 _ rfl
    go_still_tail 8, (by kernel_rfl)
    change wpList _ _ _ _ _ w1.drew
    clear c0 c1
    go_wp2_with ((with_reducible refine wpList_copyO (o := ⟨some 18, _, _, _, _, _⟩) rfl (.tmp 13) (.tmp 17) 54 54 rfl 67 Try.underlying54 Try.sizeSector (by with_unfolding_all rfl) (by with_unfolding_all rfl) (by with_unfolding_all exact D1.out.drew.sure) (by with_unfolding_all exact D1.out.drew.now) (cellsB_one _) ?_); intro w2 o2 g2; have D2 := Lib.hid (D1.out.drew.storedS o2 g2 HH.out.ok.synced); have T2 := Lib.hid (T1.out.drew.same (foot_turns g2 fun k hk => .inr (.inr (.inl (Option.some.inj hk).symm)))); have c2 : w2.cell? ⟨g, 2, none⟩ = some vp := D2.out.cell 2 _ rfl; have z2 : w2.frozen? ⟨g, 2, none⟩ = false := D2.out.row.frozen 2; clear o2 g2)
    go_ret
    rw [e1.out, e2.out]
    have hF := D2.out.cleared D2.out.ok.cleared
    exact ⟨_, rfl, hF.1, T2.out.same hF.2, fun k hk => nomatch hk⟩
  · simp only [Bool.not_eq_true] at hg
    have e1 : Hid (d.syncE = 61) := by show _ = _; unfold Dev.syncE; rw [hg]; rfl
    have e2 : Hid (d.sync = d.spend) := by show _ = _; unfold Dev.sync; rw [hg]; rfl
    rw [hg] at H2
    go_enter Try.func13, Try.ntmps13
    go_wp2_with fail
    refine (H2.out _ HH.out).mono ?_
    rintro e w1 ⟨rfl, h1, g1⟩
    have D1 := Lib.hid h1
    have T1 : Hid (Turns (Foot g gn gs vp) w w1) := foot_grown g1
    clear h1 g1
    go_wp2_with fail
    go_ret
    rw [e1.out, e2.out]
    exact ⟨vp, rfl, D1.out, T1.out, fun k hk => .inl hk⟩
theorem devFuse_any (w : World) (g gn cn gs cs : Nat) (vp : Value) (d : Dev) (h : DevIs w g gn cn gs cs vp d) (n : Int) (hn : -9223372036854775808 ≤ n ∧ n ≤ 9223372036854775807) :
    Calls Try.prog 17 #[.pointer (some ⟨g, 0, none⟩), .int .i64 n] w (DevRet w g gn cn gs cs vp (d.set n) (.tuple #[])) := by
  have H2 : Hid (∀ w, DevIs w g gn cn gs cs vp d → Calls Try.prog 34 #[.pointer (some ⟨g, 3, none⟩), .int .i64 n] w fun e w' => e = .returned (.tuple #[]) ∧ DevIs w' g gn cn gs cs vp (d.set n) ∧ w.grownBy w' (some g)) := fun w h => devSet_any w g gn cn gs cs vp d h n hn
  have HH := Lib.hid h
  clear h
  go_enter Try.func17, Try.ntmps17
  go_wp2_with fail
  refine (H2.out _ HH.out).mono ?_
  rintro e w1 ⟨rfl, h1, g1⟩
  have D1 := Lib.hid h1
  have T1 : Hid (Turns (Foot g gn gs vp) w w1) := foot_grown g1
  clear h1 g1
  go_wp2
  go_end0
  exact ⟨vp, rfl, D1.out, T1.out, fun k hk => .inl hk⟩
def Dev.readE (d : Dev) (i : Int) : Int := if d.has i then 0 else 60
def Dev.readB (d : Dev) (i : Int) : List UInt8 := if d.has i then d.now.getD i.toNat [] else []
theorem splice_all (z l : List Value) (h : z.length = l.length) : splice z 0 l = l := by
  unfold splice
  rw [List.drop_eq_nil_of_le (by omega)]
  simp
theorem sector_from {w : World} {gn n cn k m : Nat} {e : TypeId} {xs l : List Value} {sz : Nat} (h : w.ownsRow 0 e sz (.slice (some ⟨gn, 0, none⟩) n cn) n xs) (hp : (xs.drop k).take m = l) : ∀ j v, l[j]? = some v → w.cell? ((⟨gn, k, none⟩ : Addr).add j) = some v := by
  intro j v hj
  have hadd : (⟨gn, k, none⟩ : Addr).add j = ⟨gn, k + j, none⟩ := by unfold Addr.add; split <;> simp_all
  rw [hadd]
  have := own_range h k m
  rw [hp] at this
  exact this j v hj
theorem own_of_row {w : World} {g base : Nat} {e : TypeId} {l : List UInt8} (h : RowAt w g e (cellsB l).toArray) (hb : base ≤ g) (hm : l.length ≤ maxLen) : OwnB w base e (.slice (some ⟨g, 0, none⟩) l.length l.length) l :=
  ⟨by rw [cellsB_length, Nat.mul_one], .inr ⟨g, l.length, _, rfl, hb, h, Nat.le_refl _, hm, by rw [List.size_toArray, cellsB_length, Nat.mul_one], by rw [Nat.mul_one]; show (cellsB l).take l.length = _; rw [← cellsB_length l, List.take_length]⟩⟩
set_option maxHeartbeats 2000000 in
theorem devRead_any (w : World) (g gn cn gs cs : Nat) (vp : Value) (d : Dev) (h : DevIs w g gn cn gs cs vp d) (i : Int) :
    Calls Try.prog 25 #[.pointer (some ⟨g, 0, none⟩), .int .i64 i] w fun e w' => ∃ v, e = .returned (.tuple #[v, .int .i64 (d.readE i)]) ∧ OwnB w' w.heap.size 5 v (d.readB i) ∧ Below w.heap.size w w' := by
  have H1 : Hid (∀ w, DevIs w g gn cn gs cs vp d → Calls Try.prog 30 #[.pointer (some ⟨g, 0, none⟩), .int .i64 i] w (RetV w (.bool (d.has i)))) := fun w h => devHas_any w g gn cn gs cs vp d h i
  have HH := Lib.hid h
  clear h
  by_cases hi : d.has i = false
  · have e1 : Hid (d.readE i = 60) := by show _ = _; unfold Dev.readE; rw [hi]; rfl
    have e2 : Hid (d.readB i = []) := by show _ = _; unfold Dev.readB; rw [hi]; rfl
    rw [hi] at H1
    go_enter Try.func25, Try.ntmps25
    go_wp2_with fail
    refine (H1.out _ HH.out).mono ?_
    rintro e w1 ⟨rfl, b1⟩
    have B1 := Lib.hid b1
    clear b1
    go_wp2_with fail
    go_ret2
    rw [e1.out, e2.out]
    exact ⟨_, rfl, OwnB.nil _ _ _, B1.out⟩
  · simp only [Bool.not_eq_false] at hi
    have hlt := Dev.has_lt hi
    obtain ⟨j, rfl⟩ : ∃ j : Nat, i = (j : Int) := ⟨i.toNat, by omega⟩
    have hj : j < d.now.length := by simpa using hlt.2
    clear hlt
    have e1 : Hid (d.readE j = 0) := by show _ = _; unfold Dev.readE; rw [hi]; rfl
    have e2 : Hid (d.readB j = d.now[j]) := by
      show _ = _
      unfold Dev.readB
      rw [hi, if_pos rfl, Int.toNat_natCast, List.getD_eq_getElem?_getD, List.getElem?_eq_getElem hj]
      rfl
    have LX : Hid (d.now[j].length = 256) := HH.out.ok.now _ (List.getElem_mem hj)
    have PX : Hid (((cellsB d.now.flatten).drop (j * 256)).take 256 = cellsB d.now[j]) := by
      show _ = _
      rw [← cellsB_drop, ← cellsB_take, flat_part HH.out.ok.now (List.getElem?_eq_getElem hj)]
    generalize d.now[j] = x at e2 LX PX
    rw [hi] at H1
    go_enter Try.func25, Try.ntmps25
    go_wp2_with fail
    refine (H1.out _ HH.out).mono ?_
    rintro e w1 ⟨rfl, b1⟩
    have B1 := Lib.hid b1
    have D1 := Lib.hid (HH.out.kept b1)
    clear b1
    have hj2 : (j : Int) < (d.now.length : Int) := by omega
    go_wp2_with (first
      | ((with_reducible refine wpList_makeR (o := ⟨some 11, _, _, _, _, _⟩) rfl 31 5 (.const (.int .i64 256)) (.const (.int .i64 256)) rfl 256 256 rfl rfl Try.underlying31 (.int .u8 0) 1 1 (by kernel_rfl) (cellsB zeroSec).toArray (by kernel_rfl) (by omega) (by omega) (by omega) ?_); intro gb w2 n2; have N2 := Lib.hid n2; have D2 := Lib.hid (D1.out.kept n2.below); have c0 : w2.cell? ⟨g, 0, none⟩ = some (.slice (some ⟨gn, 0, none⟩) d.now.length cn) := D2.out.cell 0 _ rfl; clear n2)
      | (with_reducible refine wpList_val (o := ⟨some 18, _, _, _, _, _⟩) rfl (.pointer (some ⟨gn, 0 + j * 256, none⟩)) (by exact run_idxAt 256 54 67 (.tmp 16) (.tmp 17) rfl gn 0 d.now.length cn j (by with_unfolding_all rfl) (by with_unfolding_all rfl) hj Try.underlying54 Try.sizeSector) ?_)
      | ((with_reducible refine wpList_copy_splice (o := ⟨some 20, _, _, _, _, _⟩) rfl (.tmp 12) (.tmp 19) 31 31 rfl 5 Try.underlying31 (by kernel_rfl) (some ⟨gb, 0, none⟩) (some ⟨gn, j * 256, none⟩) 256 256 256 256 (by with_unfolding_all rfl) (by with_unfolding_all rfl) gb 0 (cellsB zeroSec) 5 (by with_unfolding_all exact N2.out.row) (cellsB x) (by rw [cellsB_length, LX.out]; exact (Nat.min_self 256).symm) (fun _ => ⟨rfl, _, rfl, sector_from D2.out.now PX.out⟩) (by rw [cellsB_length, cellsB_length, zeroSec_length, LX.out]; omega) (cellsB_one x) w1.heap.size w1 N2.out.below (Nat.le_of_eq N2.out.spot.symm) ?_); intro w3 r3 b3; have R3 := Lib.hid r3.out; have B3 := Lib.hid (below_size B1.out b3); clear r3 b3))
    go_ret2
    rw [e1.out, e2.out]
    have hR := R3.out
    rw [splice_all _ _ (by rw [cellsB_length, cellsB_length, LX.out, zeroSec_length])] at hR
    have hO := own_of_row hR (base := w.heap.size) (by have := N2.out.spot; have := B1.out.size; omega) (by unfold maxLen; rw [LX.out]; omega)
    rw [LX.out] at hO
    exact ⟨_, rfl, hO, B3.out⟩
end Go.Proofs.Ytenmgpijhaalbaa
