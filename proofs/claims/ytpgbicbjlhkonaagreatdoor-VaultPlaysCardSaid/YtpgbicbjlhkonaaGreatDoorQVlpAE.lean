/-
  Texts that belong together, merged: DevD, DevE, EnvS, DevF, DevG, A, Same, DevH, DevI. Conditions: as each theorem names them.
-/
import Derived.Test.YtpgbicbjlhkonaaGreatDoorQVlpAD
import Derived.Test.YtpgbicbjlhkonaaGreatDoorQVlpAB
import Derived.LoopTactic
import Derived.Test.YtpgbicbjlhkonaaGreatDoorQVlpAC
import Derived.Lib.SliceRun
import Derived.Test.YtpgbicbjlhkonaaGreatDoorChecked
import Derived.Test.YtpgbicbjlhkonaaGreatDoorQVlpAA
import Derived.WalkKit
import Derived.RegionTactic
import Derived.Deep.QuietTactic
import Derived.BigQuiet
import Derived.Outline
import Derived.WalkSpells
section
namespace Go.Proofs.YtpgbicbjlhkonaaGreatDoor
open Go.RowKit
set_option linter.unusedVariables false
set_option maxRecDepth 20000

theorem DevIs.cleared {w : World} {g gn cn gs cs : Nat} {vp : Value} {d : Dev} (h : DevIs w g gn cn gs cs vp d) (hok : ({ d with pend := [] } : Dev).Ok) :
    DevIs (w.setCell ⟨g, 2, none⟩ (.slice none 0 0)) g gn cn gs cs (.slice none 0 0) { d with pend := [] } ∧ Turns (Foot g gn gs vp) w (w.setCell ⟨g, 2, none⟩ (.slice none 0 0)) :=
  h.appended (p := []) (World.ownsRow_nil _ _ _ _) (Turns.refl _ _) hok
theorem Dev.Ok.synced {d : Dev} (h : d.Ok) : ({ d.spend with sure := d.now } : Dev).Ok := ⟨rfl, h.least, h.most, h.now, h.now, h.pend, h.spend.left, h.spend.fuse⟩
theorem Dev.Ok.cleared {d : Dev} (h : d.Ok) : ({ d with pend := [] } : Dev).Ok := ⟨h.same, h.least, h.most, h.now, h.sure, fun x hx => (nomatch hx), h.left, h.fuse⟩

set_option maxHeartbeats 2000000 in
theorem devSync_any (w : World) (g gn cn gs cs : Nat) (vp : Value) (d : Dev) (h : DevIs w g gn cn gs cs vp d) :
    Calls Tryz.prog 36 #[.pointer (some ⟨g, 0, none⟩)] w (DevRet w g gn cn gs cs vp d.sync (.int .i64 d.syncE)) := by
  have H2 : Hid (∀ w, DevIs w g gn cn gs cs vp d → Calls Tryz.prog 51 #[.pointer (some ⟨g, 3, none⟩)] w fun e w' => e = .returned (.bool d.goes) ∧ DevIs w' g gn cn gs cs vp d.spend ∧ w.grownBy w' (some g)) := fun w h => devSpend_any w g gn cn gs cs vp d h
  have HH := Lib.hid h
  clear h
  by_cases hg : d.goes = true
  · have e1 : Hid (d.syncE = 0) := by show _ = _; unfold Dev.syncE; rw [if_pos hg]
    have e2 : Hid (d.sync = { d.spend with sure := d.now, pend := [] }) := by show _ = _; unfold Dev.sync; rw [if_pos hg]
    rw [hg] at H2
    go_enter Tryz.func36, Tryz.ntmps36
    go_wp2_with fail
    refine (H2.out _ HH.out).mono ?_
    rintro e w1 ⟨rfl, h1, g1⟩
    have D1 := Lib.hid h1
    have T1 : Hid (Turns (Foot g gn gs vp) w w1) := foot_grown g1
    clear h1 g1
    go_wp2_with fail
    have c0 : w1.cell? ⟨g, 0, none⟩ = some (.slice (some ⟨gn, 0, none⟩) d.now.length cn) := D1.out.cell 0 _ rfl
    have c1 : w1.cell? ⟨g, 1, none⟩ = some (.slice (some ⟨gs, 0, none⟩) d.now.length cs) := D1.out.cell 1 _ rfl
    go_still_tail 8, (by kernel_rfl)
    change wpList _ _ _ _ _ w1.drew
    clear c0 c1
    go_wp2_with ((with_reducible refine wpList_copyO (o := ⟨some 18, _, _, _, _, _⟩) rfl (.tmp 13) (.tmp 17) 60 60 rfl 102 Tryz.underlying60 Tryz.sizeSector (by with_unfolding_all rfl) (by with_unfolding_all rfl) (by with_unfolding_all exact D1.out.drew.sure) (by with_unfolding_all exact D1.out.drew.now) (cellsB_one _) ?_); intro w2 o2 g2; have D2 := Lib.hid (D1.out.drew.storedS o2 g2 HH.out.ok.synced); have T2 := Lib.hid (T1.out.drew.same (foot_turns g2 fun k hk => .inr (.inr (.inl (Option.some.inj hk).symm)))); have c2 : w2.cell? ⟨g, 2, none⟩ = some vp := D2.out.cell 2 _ rfl; have z2 : w2.frozen? ⟨g, 2, none⟩ = false := D2.out.row.frozen 2; clear o2 g2)
    go_ret
    rw [e1.out, e2.out]
    have hF := D2.out.cleared D2.out.ok.cleared
    exact ⟨_, rfl, hF.1, T2.out.same hF.2, fun k hk => nomatch hk⟩
  · simp only [Bool.not_eq_true] at hg
    have e1 : Hid (d.syncE = 61) := by show _ = _; unfold Dev.syncE; rw [hg]; rfl
    have e2 : Hid (d.sync = d.spend) := by show _ = _; unfold Dev.sync; rw [hg]; rfl
    rw [hg] at H2
    go_enter Tryz.func36, Tryz.ntmps36
    go_wp2_with fail
    refine (H2.out _ HH.out).mono ?_
    rintro e w1 ⟨rfl, h1, g1⟩
    have D1 := Lib.hid h1
    have T1 : Hid (Turns (Foot g gn gs vp) w w1) := foot_grown g1
    clear h1 g1
    go_wp2_with fail
    go_ret
    rw [e1.out, e2.out]
    exact ⟨vp, rfl, D1.out, T1.out, fun k hk => .inl hk⟩
theorem devFuse_any (w : World) (g gn cn gs cs : Nat) (vp : Value) (d : Dev) (h : DevIs w g gn cn gs cs vp d) (n : Int) (hn : -9223372036854775808 ≤ n ∧ n ≤ 9223372036854775807) :
    Calls Tryz.prog 14 #[.pointer (some ⟨g, 0, none⟩), .int .i64 n] w (DevRet w g gn cn gs cs vp (d.set n) (.tuple #[])) := by
  have H2 : Hid (∀ w, DevIs w g gn cn gs cs vp d → Calls Tryz.prog 47 #[.pointer (some ⟨g, 3, none⟩), .int .i64 n] w fun e w' => e = .returned (.tuple #[]) ∧ DevIs w' g gn cn gs cs vp (d.set n) ∧ w.grownBy w' (some g)) := fun w h => devSet_any w g gn cn gs cs vp d h n hn
  have HH := Lib.hid h
  clear h
  go_enter Tryz.func14, Tryz.ntmps14
  go_wp2_with fail
  refine (H2.out _ HH.out).mono ?_
  rintro e w1 ⟨rfl, h1, g1⟩
  have D1 := Lib.hid h1
  have T1 : Hid (Turns (Foot g gn gs vp) w w1) := foot_grown g1
  clear h1 g1
  go_wp2
  go_end0
  exact ⟨vp, rfl, D1.out, T1.out, fun k hk => .inl hk⟩
def Dev.readE (d : Dev) (i : Int) : Int := if d.has i then 0 else 60
def Dev.readB (d : Dev) (i : Int) : List UInt8 := if d.has i then d.now.getD i.toNat [] else []
theorem splice_all (z l : List Value) (h : z.length = l.length) : splice z 0 l = l := by
  unfold splice
  rw [List.drop_eq_nil_of_le (by omega)]
  simp
theorem sector_from {w : World} {gn n cn k m : Nat} {e : TypeId} {xs l : List Value} {sz : Nat} (h : w.ownsRow 0 e sz (.slice (some ⟨gn, 0, none⟩) n cn) n xs) (hp : (xs.drop k).take m = l) : ∀ j v, l[j]? = some v → w.cell? ((⟨gn, k, none⟩ : Addr).add j) = some v := by
  intro j v hj
  have hadd : (⟨gn, k, none⟩ : Addr).add j = ⟨gn, k + j, none⟩ := by unfold Addr.add; split <;> simp_all
  rw [hadd]
  have := own_range h k m
  rw [hp] at this
  exact this j v hj
theorem own_of_row {w : World} {g base : Nat} {e : TypeId} {l : List UInt8} (h : RowAt w g e (cellsB l).toArray) (hb : base ≤ g) (hm : l.length ≤ maxLen) : OwnB w base e (.slice (some ⟨g, 0, none⟩) l.length l.length) l :=
  ⟨by rw [cellsB_length, Nat.mul_one], .inr ⟨g, l.length, _, rfl, hb, h, Nat.le_refl _, hm, by rw [List.size_toArray, cellsB_length, Nat.mul_one], by rw [Nat.mul_one]; show (cellsB l).take l.length = _; rw [← cellsB_length l, List.take_length]⟩⟩
set_option maxHeartbeats 2000000 in
theorem devRead_any (w : World) (g gn cn gs cs : Nat) (vp : Value) (d : Dev) (h : DevIs w g gn cn gs cs vp d) (i : Int) :
    Calls Tryz.prog 26 #[.pointer (some ⟨g, 0, none⟩), .int .i64 i] w fun e w' => ∃ v, e = .returned (.tuple #[v, .int .i64 (d.readE i)]) ∧ OwnB w' w.heap.size 5 v (d.readB i) ∧ Below w.heap.size w w' := by
  have H1 : Hid (∀ w, DevIs w g gn cn gs cs vp d → Calls Tryz.prog 50 #[.pointer (some ⟨g, 0, none⟩), .int .i64 i] w (RetV w (.bool (d.has i)))) := fun w h => devHas_any w g gn cn gs cs vp d h i
  have HH := Lib.hid h
  clear h
  by_cases hi : d.has i = false
  · have e1 : Hid (d.readE i = 60) := by show _ = _; unfold Dev.readE; rw [hi]; rfl
    have e2 : Hid (d.readB i = []) := by show _ = _; unfold Dev.readB; rw [hi]; rfl
    rw [hi] at H1
    go_enter Tryz.func26, Tryz.ntmps26
    go_wp2_with fail
    refine (H1.out _ HH.out).mono ?_
    rintro e w1 ⟨rfl, b1⟩
    have B1 := Lib.hid b1
    clear b1
    go_wp2_with fail
    go_ret2
    rw [e1.out, e2.out]
    exact ⟨_, rfl, OwnB.nil _ _ _, B1.out⟩
  · simp only [Bool.not_eq_false] at hi
    have hlt := Dev.has_lt hi
    obtain ⟨j, rfl⟩ : ∃ j : Nat, i = (j : Int) := ⟨i.toNat, by omega⟩
    have hj : j < d.now.length := by simpa using hlt.2
    clear hlt
    have e1 : Hid (d.readE j = 0) := by show _ = _; unfold Dev.readE; rw [hi]; rfl
    have e2 : Hid (d.readB j = d.now[j]) := by
      show _ = _
      unfold Dev.readB
      rw [hi, if_pos rfl, Int.toNat_natCast, List.getD_eq_getElem?_getD, List.getElem?_eq_getElem hj]
      rfl
    have LX : Hid (d.now[j].length = 256) := HH.out.ok.now _ (List.getElem_mem hj)
    have PX : Hid (((cellsB d.now.flatten).drop (j * 256)).take 256 = cellsB d.now[j]) := by
      show _ = _
      rw [← cellsB_drop, ← cellsB_take, dflat_part HH.out.ok.now (List.getElem?_eq_getElem hj)]
    generalize d.now[j] = x at e2 LX PX
    rw [hi] at H1
    go_enter Tryz.func26, Tryz.ntmps26
    go_wp2_with fail
    refine (H1.out _ HH.out).mono ?_
    rintro e w1 ⟨rfl, b1⟩
    have B1 := Lib.hid b1
    have D1 := Lib.hid (HH.out.kept b1)
    clear b1
    have hj2 : (j : Int) < (d.now.length : Int) := by omega
    go_wp2_with (first
      | ((with_reducible refine wpList_makeR (o := ⟨some 11, _, _, _, _, _⟩) rfl 38 5 (.const (.int .i64 256)) (.const (.int .i64 256)) rfl 256 256 rfl rfl Tryz.underlying38 (.int .u8 0) 1 1 (by kernel_rfl) (cellsB zeroSec).toArray (by kernel_rfl) (by omega) (by omega) (by omega) ?_); intro gb w2 n2; have N2 := Lib.hid n2; have D2 := Lib.hid (D1.out.kept n2.below); have c0 : w2.cell? ⟨g, 0, none⟩ = some (.slice (some ⟨gn, 0, none⟩) d.now.length cn) := D2.out.cell 0 _ rfl; clear n2)
      | (with_reducible refine wpList_val (o := ⟨some 18, _, _, _, _, _⟩) rfl (.pointer (some ⟨gn, 0 + j * 256, none⟩)) (by exact run_idxAt 256 60 102 (.tmp 16) (.tmp 17) rfl gn 0 d.now.length cn j (by with_unfolding_all rfl) (by with_unfolding_all rfl) hj Tryz.underlying60 Tryz.sizeSector) ?_)
      | ((with_reducible refine wpList_copy_splice (o := ⟨some 20, _, _, _, _, _⟩) rfl (.tmp 12) (.tmp 19) 38 38 rfl 5 Tryz.underlying38 (by kernel_rfl) (some ⟨gb, 0, none⟩) (some ⟨gn, j * 256, none⟩) 256 256 256 256 (by with_unfolding_all rfl) (by with_unfolding_all rfl) gb 0 (cellsB zeroSec) 5 (by with_unfolding_all exact N2.out.row) (cellsB x) (by rw [cellsB_length, LX.out]; exact (Nat.min_self 256).symm) (fun _ => ⟨rfl, _, rfl, sector_from D2.out.now PX.out⟩) (by rw [cellsB_length, cellsB_length, zeroSec_length, LX.out]; omega) (cellsB_one x) w1.heap.size w1 N2.out.below (Nat.le_of_eq N2.out.spot.symm) ?_); intro w3 r3 b3; have R3 := Lib.hid r3.out; have B3 := Lib.hid (below_size B1.out b3); clear r3 b3))
    go_ret2
    rw [e1.out, e2.out]
    have hR := R3.out
    rw [splice_all _ _ (by rw [cellsB_length, cellsB_length, LX.out, zeroSec_length])] at hR
    have hO := own_of_row hR (base := w.heap.size) (by have := N2.out.spot; have := B1.out.size; omega) (by unfold maxLen; rw [LX.out]; omega)
    rw [LX.out] at hO
    exact ⟨_, rfl, hO, B3.out⟩
end Go.Proofs.YtpgbicbjlhkonaaGreatDoor
end
section
namespace Go.Proofs.YtpgbicbjlhkonaaGreatDoor
open Go.RowKit
set_option linter.unusedVariables false
set_option maxRecDepth 20000

/-- A slice of bools reads as l. -/
def Bls (w : World) (v : Value) (l : List Bool) : Prop :=
  ∃ A c, v = .slice A l.length c ∧ l.length ≤ c ∧ c ≤ maxLen ∧ (0 < l.length → ∃ b off, A = some ⟨b, off, none⟩ ∧ ∀ j (h : j < l.length), w.cell? ⟨b, off + j, none⟩ = some (.bool l[j]))
theorem Bls.nil (w : World) : Bls w (.slice none 0 0) [] := ⟨none, 0, rfl, Nat.le_refl _, by simp [maxLen], fun h => absurd h (by simp)⟩
theorem Bls.turned {w w' : World} {F : Nat → Prop} {v : Value} {l : List Bool} (h : Bls w v l) (ht : Turns F w w') (hF : ∀ k, v.ownBlock = some k → ¬ F k) : Bls w' v l := by
  obtain ⟨A, c, rfl, h1, h2, h3⟩ := h
  refine ⟨A, c, rfl, h1, h2, fun hl => ?_⟩
  obtain ⟨b, off, rfl, hc⟩ := h3 hl
  exact ⟨b, off, rfl, fun j hj => ht.cell (hc j hj) (hF b rfl)⟩
theorem Bls.below {w w' : World} {v : Value} {l : List Bool} (h : Bls w v l) (hb : Below w.heap.size w w') : Bls w' v l := h.turned (F := fun _ => False) (Turns.of_below _ hb) fun _ _ h => h

theorem Bls.at_ {w : World} {A : Option Addr} {n c : Nat} {l : List Bool} (h : Bls w (.slice A n c) l) (j : Nat) (hj : j < l.length) : ∃ b off, A = some ⟨b, off, none⟩ ∧ w.cell? ⟨b, off + j, none⟩ = some (.bool l[j]) := by
  obtain ⟨A', c', hv, _, _, h3⟩ := h
  injection hv with e1 _ _
  obtain ⟨b, off, hA, hc⟩ := h3 (by omega)
  exact ⟨b, off, e1.trans hA, hc j hj⟩
/-- The loop's state behind k of the pending writes. -/
def Dev.amid (d : Dev) (keep : List Bool) (k : Nat) : Dev := { d with sure := doneTo (fun k => keep.getD k false) d.pend d.sure k }
theorem Dev.Ok.amid {d : Dev} (h : d.Ok) (keep : List Bool) (k : Nat) : (d.amid keep k).Ok where
  same := by show (doneTo _ _ _ _).length = _; rw [doneTo_length]; exact h.same
  least := h.least
  most := h.most
  now := h.now
  sure := doneTo_all _ _ _ 256 h.sure (fun x hx => (h.pend x hx).2) _
  pend := h.pend
  left := h.left
  fuse := h.fuse
theorem Tryz.builtFuse : Tryz.prog.built 63 [] = some #[.bool false, .int .i64 0, .bool false] := by kernel_rfl

theorem three_one : ∀ u ∈ [Value.bool false, .int .i64 0, .bool false], u.oneCell' = true := by decide
set_option maxHeartbeats 4000000 in
theorem devCrash_any (w : World) (g gn cn gs cs : Nat) (vp : Value) (d : Dev) (h : DevIs w g gn cn gs cs vp d) (vk : Value) (keep : List Bool) (hk : Bls w vk keep) (hF : 0 < keep.length → ∀ k, vk.ownBlock = some k → ¬ Foot g gn gs vp k) (hp : d.pend.length ≤ 1000000) :
    Calls Tryz.prog 12 #[.pointer (some ⟨g, 0, none⟩), vk] w (DevRet w g gn cn gs cs vp (d.crash keep) (.tuple #[])) := by
  have HH := Lib.hid h
  have HK := Lib.hid hk
  have HF := Lib.hid hF
  have c2 := h.cell 2 _ rfl
  obtain ⟨A, c, hvp⟩ := h.vp_shape
  obtain ⟨kA, kc, rfl, k1, k2, _⟩ := hk
  have hkm : keep.length ≤ maxLen := Nat.le_trans k1 k2
  unfold maxLen at hkm
  rw [hvp] at c2
  clear h hF
  go_enter Tryz.func12, Tryz.ntmps12
  go_wp2
  clear c2
  go_loopw [13] (fun i wr => ∃ k : Nat, k ≤ d.pend.length ∧ i = .int .i64 (k : Int) ∧ Hid (DevIs wr g gn cn gs cs vp (d.amid keep k)) ∧ Hid (Turns (Foot g gn gs vp) w wr)) (fun i _ => d.pend.length - (intOf i).toNat)
  case atStart => exact ⟨0, by omega, rfl, HH.out, Turns.refl _ _⟩
  case round =>
    obtain ⟨k, hk, rfl, HD, HT⟩ := hrel
    by_cases hlt : k < d.pend.length
    · obtain ⟨x, hx⟩ : ∃ x, d.pend[k]? = some x := ⟨_, List.getElem?_eq_getElem hlt⟩
      obtain ⟨gp, rfl⟩ : ∃ gp, A = some ⟨gp, 0, none⟩ := by
        rcases HH.out.pend.2 with ⟨_, h0⟩ | ⟨gp, _, _, e, _⟩
        · omega
        · rw [hvp] at e
          injection e with e
          exact ⟨gp, e⟩
      have HX := HH.out.ok.pend x (List.mem_of_getElem? hx)
      obtain ⟨at_, b⟩ := x
      have ha : at_ < d.now.length := HX.1
      have LP : Hid (b.length = 256) := HX.2
      have ham := HH.out.ok.most
      have E1 : Hid (d.amid keep (k + 1) = if keep.getD k false then { d.amid keep k with sure := (d.amid keep k).sure.set at_ b } else d.amid keep k) := by
        show _ = _
        unfold Dev.amid
        rw [doneTo_step _ _ _ k _ hx]
        split <;> rfl
      have RG : Hid (wr.rangeAt gp (k * 257) (wr1 (at_, b))) := by
        have h1 := HD.out.pend
        rw [hvp] at h1
        have h2 := own_range h1 (k * 257) 257
        rw [show (d.amid keep k).pend = d.pend from rfl, wrC_part (fun y hy => (HH.out.ok.pend y hy).2) hx] at h2
        exact h2
      have hkl : (k : Int) < (d.pend.length : Int) := by omega
      clear HX hx
      by_cases hkk : k < keep.length
      · obtain ⟨kb, ko, rfl, hc⟩ := HK.out.at_ k hkk
        have HC : Hid (∀ W, Turns (Foot g gn gs vp) w W → W.cell? ⟨kb, ko + k, none⟩ = some (.bool keep[k])) := fun W ht => ht.cell hc (HF.out (by omega) kb rfl)
        have hg0 : keep.getD k false = keep[k] := by rw [List.getD_eq_getElem?_getD, List.getElem?_eq_getElem hkk]; rfl
        rw [hg0] at E1
        have hkk2 : (k : Int) < (keep.length : Int) := by omega
        clear hc hg0
        generalize keep[k] = y at HC E1
        rcases y with _ | _
        · have e1 := E1.out
          rw [if_neg (by decide)] at e1
          have E2 := Lib.hid e1
          clear e1 E1
          go_wp2_with (first
            | (with_reducible refine wpList_val (o := ⟨some 16, _, _, _, _, _⟩) rfl (.pointer (some ⟨gp, k * 257, none⟩)) (by exact run_idxAt0 257 61 104 (.tmp 11) (.tmp 13) rfl gp d.pend.length c k (by with_unfolding_all rfl) (by with_unfolding_all rfl) hlt Tryz.underlying61 Tryz.sizeWrite) ?_)
            | (with_reducible refine wpList_val (o := ⟨some 17, _, _, _, _, _⟩) rfl (.agg (wr1 (at_, b)).toArray) (by exact run_load_range 104 (.tmp 16) rfl (k * 257) (wr1 (at_, b)) _ (by with_unfolding_all rfl) (by with_unfolding_all exact RG.out) Tryz.underlying104 rfl (by rw [wr1_length (x := (at_, b)) LP.out]; exact Tryz.sizeWrite)) ?_)
            | ((with_reducible refine wpList_alloc_row (o := ⟨some 5, _, _, _, _, _⟩) rfl 104 rfl zeroWr Tryz.zeroWrite ?_); intro g5 w1 n1; have N1 := Lib.hid n1; clear n1)
            | ((with_reducible refine wpList_store_row (o := ⟨none, _, _, _, _, _⟩) rfl 104 (.tmp 5) (.tmp 17) rfl g5 104 zeroWr (wr1 (at_, b)).toArray (by with_unfolding_all rfl) (by with_unfolding_all rfl) N1.out.row (zeroWr_size (at_, b) LP.out) (Tryz.sizeWr (at_, b) LP.out) (wr1_one (at_, b)) ?_); intro w2 p2; have L2 := Lib.hid (laid_put N1.out p2).1; have R2 := Lib.hid p2.row; have T2 := Lib.hid (HT.out.same (Turns.of_below _ L2.out)); have D2 := Lib.hid (HD.out.kept L2.out); have ck := HC.out w2 T2.out; clear p2))
          refine ⟨⟨k + 1, by omega, by congr 1, ?_, T2⟩, ?_⟩
          · rw [E2.out]; exact D2
          · show d.pend.length - ((k : Int) + 1).toNat < d.pend.length - (k : Int).toNat
            omega
        · have e1 := E1.out
          rw [if_pos rfl] at e1
          have E2 := Lib.hid e1
          clear e1 E1
          go_wp2_with (first
            | (with_reducible refine wpList_val (o := ⟨some 16, _, _, _, _, _⟩) rfl (.pointer (some ⟨gp, k * 257, none⟩)) (by exact run_idxAt0 257 61 104 (.tmp 11) (.tmp 13) rfl gp d.pend.length c k (by with_unfolding_all rfl) (by with_unfolding_all rfl) hlt Tryz.underlying61 Tryz.sizeWrite) ?_)
            | (with_reducible refine wpList_val (o := ⟨some 17, _, _, _, _, _⟩) rfl (.agg (wr1 (at_, b)).toArray) (by exact run_load_range 104 (.tmp 16) rfl (k * 257) (wr1 (at_, b)) _ (by with_unfolding_all rfl) (by with_unfolding_all exact RG.out) Tryz.underlying104 rfl (by rw [wr1_length (x := (at_, b)) LP.out]; exact Tryz.sizeWrite)) ?_)
            | ((with_reducible refine wpList_alloc_row (o := ⟨some 5, _, _, _, _, _⟩) rfl 104 rfl zeroWr Tryz.zeroWrite ?_); intro g5 w1 n1; have N1 := Lib.hid n1; clear n1)
            | ((with_reducible refine wpList_store_row (o := ⟨none, _, _, _, _, _⟩) rfl 104 (.tmp 5) (.tmp 17) rfl g5 104 zeroWr (wr1 (at_, b)).toArray (by with_unfolding_all rfl) (by with_unfolding_all rfl) N1.out.row (zeroWr_size (at_, b) LP.out) (Tryz.sizeWr (at_, b) LP.out) (wr1_one (at_, b)) ?_); intro w2 p2; have L2 := Lib.hid (laid_put N1.out p2).1; have R2 := Lib.hid p2.row; have T2 := Lib.hid (HT.out.same (Turns.of_below _ L2.out)); have D2 := Lib.hid (HD.out.kept L2.out); have ck := HC.out w2 T2.out; clear p2))
          have c1 : w2.cell? ⟨g, 1, none⟩ = some (.slice (some ⟨gs, 0, none⟩) d.now.length cs) := D2.out.cell 1 _ rfl
          have ca : w2.cell? ⟨g5, 0, none⟩ = some (.int .i64 (at_ : Int)) := R2.out.cell 0
          have RS : Hid (w2.drew.rangeAt g5 1 (cellsB b)) := wr_range (x := (at_, b)) R2.out.drew
          clear ck
          go_still_tail 9, (by kernel_rfl)
          refine wpStill_val (o := ⟨some 35, _, _, _, _, _⟩) rfl (by exact run_load_range 102 (.tmp 34) rfl 1 (cellsB b) _ (by with_unfolding_all rfl) (by with_unfolding_all exact RS.out) Tryz.underlying102 rfl (Tryz.sizeSecB _ LP.out)) ?_
          simp only [Act.put, List.setIfInBounds_toArray, List.set_cons_zero, List.set_cons_succ]
          refine wpStill_val (o := ⟨some 36, _, _, _, _, _⟩) rfl (by exact run_idxAt0 256 60 102 (.tmp 31) (.tmp 33) rfl gs d.now.length cs at_ (by with_unfolding_all rfl) (by with_unfolding_all rfl) ha Tryz.underlying60 Tryz.sizeSector) ?_
          simp only [Act.put, List.setIfInBounds_toArray, List.set_cons_zero, List.set_cons_succ]
          refine wpStill_nil ?_
          change wpList _ _ _ _ _ w2.drew
          have hfit : at_ * 256 + (cellsB b).length ≤ d.now.length * 256 := by
            rw [cellsB_length, LP.out]
            have := Nat.mul_le_mul_right 256 (Nat.succ_le_of_lt ha)
            rw [Nat.succ_mul] at this
            exact this
          have ES : Hid ((cellsB (d.amid keep k).sure.flatten).take (at_ * 256) ++ cellsB b ++ (cellsB (d.amid keep k).sure.flatten).drop (at_ * 256 + (cellsB b).length) = cellsB ((d.amid keep k).sure.set at_ b).flatten) := by
            show _ = _
            rw [← flat_set D2.out.ok.sure (by rw [D2.out.ok.same]; exact ha) LP.out, cellsB_append, cellsB_append, cellsB_take, cellsB_drop, cellsB_length, LP.out]
          have OK6 : Hid ({ d.amid keep k with sure := (d.amid keep k).sure.set at_ b } : Dev).Ok := E2.out ▸ HH.out.ok.amid keep (k + 1)
          clear c1 ca RS
          go_wp2_with ((with_reducible refine wpList_storeO (o := ⟨none, _, _, _, _, _⟩) rfl 102 (.tmp 36) (.tmp 35) rfl (at_ * 256) (cellsB b) (by with_unfolding_all rfl) (by with_unfolding_all rfl) (by with_unfolding_all exact D2.out.drew.sure) hfit (Tryz.sizeSecB _ LP.out) (cellsB_one _) ?_); intro w6 o6 g6)
          have o6' : w6.ownsRow 0 102 256 (.slice (some ⟨gs, 0, none⟩) d.now.length cs) d.now.length (cellsB ((d.amid keep k).sure.set at_ b).flatten) := by
            rw [← ES.out]; exact o6
          have D6 := D2.out.drew.storedS o6' g6 OK6.out
          have T6 := T2.out.drew.same (foot_turns g6 fun k hk => .inr (.inr (.inl (Option.some.inj hk).symm)))
          refine ⟨⟨k + 1, by omega, by congr 1, ?_, T6⟩, ?_⟩
          · rw [E2.out]; exact D6
          · show d.pend.length - ((k : Int) + 1).toNat < d.pend.length - (k : Int).toNat
            omega
      · have hkk2 : decide ((k : Int) < (keep.length : Int)) = false := by simp; omega
        have hg0 : keep.getD k false = false := by rw [List.getD_eq_getElem?_getD, List.getElem?_eq_none (by omega)]; rfl
        rw [hg0] at E1
        have e1 := E1.out
        rw [if_neg (by decide)] at e1
        have E2 := Lib.hid e1
        clear e1 E1 hg0
        go_wp2_with (first
          | (with_reducible refine wpList_val (o := ⟨some 16, _, _, _, _, _⟩) rfl (.pointer (some ⟨gp, k * 257, none⟩)) (by exact run_idxAt0 257 61 104 (.tmp 11) (.tmp 13) rfl gp d.pend.length c k (by with_unfolding_all rfl) (by with_unfolding_all rfl) hlt Tryz.underlying61 Tryz.sizeWrite) ?_)
          | (with_reducible refine wpList_val (o := ⟨some 17, _, _, _, _, _⟩) rfl (.agg (wr1 (at_, b)).toArray) (by exact run_load_range 104 (.tmp 16) rfl (k * 257) (wr1 (at_, b)) _ (by with_unfolding_all rfl) (by with_unfolding_all exact RG.out) Tryz.underlying104 rfl (by rw [wr1_length (x := (at_, b)) LP.out]; exact Tryz.sizeWrite)) ?_)
          | ((with_reducible refine wpList_alloc_row (o := ⟨some 5, _, _, _, _, _⟩) rfl 104 rfl zeroWr Tryz.zeroWrite ?_); intro g5 w1 n1; have N1 := Lib.hid n1; clear n1)
          | ((with_reducible refine wpList_store_row (o := ⟨none, _, _, _, _, _⟩) rfl 104 (.tmp 5) (.tmp 17) rfl g5 104 zeroWr (wr1 (at_, b)).toArray (by with_unfolding_all rfl) (by with_unfolding_all rfl) N1.out.row (zeroWr_size (at_, b) LP.out) (Tryz.sizeWr (at_, b) LP.out) (wr1_one (at_, b)) ?_); intro w2 p2; have L2 := Lib.hid (laid_put N1.out p2).1; have R2 := Lib.hid p2.row; have T2 := Lib.hid (HT.out.same (Turns.of_below _ L2.out)); have D2 := Lib.hid (HD.out.kept L2.out); clear p2))
        refine ⟨⟨k + 1, by omega, by congr 1, ?_, T2⟩, ?_⟩
        · rw [E2.out]; exact D2
        · show d.pend.length - ((k : Int) + 1).toNat < d.pend.length - (k : Int).toNat
          omega
    · have hk2 : k = d.pend.length := by omega
      subst hk2
      have hdd : decide ((d.pend.length : Int) < (d.pend.length : Int)) = false := by simp
      go_wp2_with fail
      have c0 : wr.cell? ⟨g, 0, none⟩ = some (.slice (some ⟨gn, 0, none⟩) d.now.length cn) := HD.out.cell 0 _ rfl
      have c1 : wr.cell? ⟨g, 1, none⟩ = some (.slice (some ⟨gs, 0, none⟩) d.now.length cs) := HD.out.cell 1 _ rfl
      go_still_tail 8, (by kernel_rfl)
      change wpList _ _ _ _ _ wr.drew
      clear c0 c1
      have LK : Hid ((d.amid keep d.pend.length).sure.length = d.now.length) := HD.out.ok.same
      have OK2 : Hid ({ d.amid keep d.pend.length with now := (d.amid keep d.pend.length).sure } : Dev).Ok := by
        have h1 := HD.out.ok
        have h2 := LK.out
        exact ⟨rfl, by show 1 ≤ (d.amid keep d.pend.length).sure.length; rw [h2]; exact h1.least, by show (d.amid keep d.pend.length).sure.length ≤ 600; rw [h2]; exact h1.most, h1.sure, h1.sure, fun y hy => by
          show y.1 < (d.amid keep d.pend.length).sure.length ∧ _
          rw [h2]; exact h1.pend y hy, h1.left, h1.fuse⟩
      go_wp2_with (first
        | ((with_reducible refine wpList_copyO (o := ⟨some 46, _, _, _, _, _⟩) rfl (.tmp 41) (.tmp 45) 60 60 rfl 102 Tryz.underlying60 Tryz.sizeSector (by with_unfolding_all rfl) (by with_unfolding_all rfl) (by with_unfolding_all exact HD.out.drew.now) (by with_unfolding_all exact HD.out.drew.sure) (cellsB_one _) ?_); intro w2 o2 g2; have D2 := Lib.hid (HD.out.drew.stored o2 g2 LK.out OK2.out); have T2 := Lib.hid (HT.out.drew.same (foot_turns g2 fun k hk => .inr (.inl (Option.some.inj hk).symm))); have c2 : w2.cell? ⟨g, 2, none⟩ = some vp := D2.out.cell 2 _ rfl; have z2 : w2.frozen? ⟨g, 2, none⟩ = false := D2.out.row.frozen 2; have F3 := Lib.hid (D2.out.cleared D2.out.ok.cleared); have R3 : Hid (RowAt (w2.setCell ⟨g, 2, none⟩ (.slice none 0 0)) g 65 #[.slice (some ⟨gn, 0, none⟩) (d.kept keep).length cn, .slice (some ⟨gs, 0, none⟩) (d.kept keep).length cs, .slice none 0 0, .bool d.there, .int .i64 d.left, .bool d.burnt]) := F3.out.1.row; clear o2 g2)
        | (with_reducible refine wpList_val (o := ⟨some 51, _, _, _, _, _⟩) rfl (.agg #[.bool false, .int .i64 0, .bool false]) (by exact run_builtOp 63 #[] rfl _ Tryz.builtFuse) ?_)
        | ((with_reducible refine wpList_storeRP (o := ⟨none, _, _, _, _, _⟩) rfl 63 (.tmp 53) (.tmp 51) rfl g 3 65 #[.slice (some ⟨gn, 0, none⟩) (d.kept keep).length cn, .slice (some ⟨gs, 0, none⟩) (d.kept keep).length cs, .slice none 0 0, .bool d.there, .int .i64 d.left, .bool d.burnt] #[.slice (some ⟨gn, 0, none⟩) (d.kept keep).length cn, .slice (some ⟨gs, 0, none⟩) (d.kept keep).length cs, .slice none 0 0, .bool false, .int .i64 0, .bool false] [.bool false, .int .i64 0, .bool false] (by with_unfolding_all rfl) (by with_unfolding_all rfl) (by with_unfolding_all exact R3.out) (by with_unfolding_all exact Nat.le_refl 6) (by with_unfolding_all rfl) (by kernel_rfl) three_one ?_); intro w4 p4))
      go_end0
      subst hvp
      have D4 := F3.out.1.rowed (d' := d.crash keep) p4.grown p4.row rfl rfl rfl (HH.out.ok.crash keep)
      exact ⟨_, rfl, D4, (T2.out.same F3.out.2).same (foot_grown p4.grown), fun k hk => nomatch hk⟩
end Go.Proofs.YtpgbicbjlhkonaaGreatDoor
end
section
namespace Go.Proofs.YtpgbicbjlhkonaaGreatDoor
open Go.RowKit
set_option linter.unusedVariables false

/-- However a region's operations came about, one continuation serves. -/
theorem loose_share {P : Program} {md : Region.Mode} {ops : Array Oper} {Q : Exit → Act → World → Prop} {fin : Nat → Bool} {w0 w : World} {rs : List (Nat × TypeId × Array Value)} {m : Nat} {listed : Array Bool} {a : Act} {A : Nat → Act} (ty : TypeId) (cs : Array Value)
    (hgo : ∀ g w', Env w0 ((g, ty, cs) :: rs) w' → Q .normal (A g) w') (h : (∀ g w', Env w0 ((g, ty, cs) :: rs) w' → Q .normal (A g) w') → walkS P md ops Q (Env w0 rs) fin m listed a w) : walkS P md ops Q (Env w0 rs) fin m listed a w := h hgo

section
variable {P : Program} {md : Region.Mode} {ops : Array Oper} {Q : Exit → Act → World → Prop} {S : World → Prop} {fin : Nat → Bool}
theorem walkS_two {i j m : Nat} {oi oj : Oper} {listed : Array Bool} {a : Act} {w : World} (hr : Region.ready md ops listed = [i, j]) (hi : ops[i]? = some oi) (hj : ops[j]? = some oj) (hgi : oi.guard = none) (hgj : oj.guard = none)
    (h1 : ∀ K : Act → World → Prop, (∀ a' w', (fin i = true ∨ S w') → walkS P md ops Q S fin m (listed.setIfInBounds i true) a' w' → K a' w') → oi.wp P a w K Q)
    (h2 : ∀ K : Act → World → Prop, (∀ a' w', (fin j = true ∨ S w') → walkS P md ops Q S fin m (listed.setIfInBounds j true) a' w' → K a' w') → oj.wp P a w K Q) : walkS P md ops Q S fin (m + 1) listed a w := by
  refine ⟨fun h0 => (by rw [hr] at h0; cases h0), fun k hk => ?_⟩
  rw [hr] at hk
  rcases List.mem_cons.1 hk with rfl | hk
  · unfold wpOp
    rw [hi]
    have hw : Region.wanted oi (yielded ops a.tmps) = true := by simp [Region.wanted, hgi]
    simp only [hw, if_true]
    exact .inl (h1 _ (fun a' w' h1 h2 => ⟨h1, h2⟩))
  · obtain rfl : k = j := by simpa using hk
    unfold wpOp
    rw [hj]
    have hw : Region.wanted oj (yielded ops a.tmps) = true := by simp [Region.wanted, hgj]
    simp only [hw, if_true]
    exact .inl (h2 _ (fun a' w' h1 h2 => ⟨h1, h2⟩))
/-- Into the walk, with the rows of the call as what abides. -/
theorem region_rows {id : Nat} {w0 w : World} {rs : List (Nat × TypeId × Array Value)} {a : Act} (_ : Env w0 rs w) (hm : P.follows .mixedOrders = true) (h : walkS P .any ops Q (Env w0 rs) fin ops.size (Array.replicate ops.size false) a w.drew) : (Code.region id ops true).wp P Q a w := plain_region hm h
theorem takeE_load {w0 : World} {rs : List (Nat × TypeId × Array Value)} {k : Nat} {oi : Oper} (hi : ops[k]? = some oi) (hs : Region.noSelect ops = true)
    (hw : ((List.range ops.size).all fun j => !fin j || (match ops[j]? with | some oj => oj.after.any (fun e => Region.binds md e && e.on == k) | none => true)) = true)
    (hQ : ∀ v c a w, Q (.panic c) (a.put oi.dst v) w → Q (.panic c) a w) (m : Nat) (listed : Array Bool) (a : Act) (w : World) (hf : Region.free md ops listed k = true) (hr : (Region.ready md ops listed).contains k = true)
    (hgw : Region.wanted oi (yielded ops a.tmps) = true) (ty : TypeId) (x : Operand) (ho : oi.op = .load ty x) (i g : Nat) (t : TypeId) (cs : Array Value) (d : TypeDesc) (hi2 : rs[i]? = some (g, t, cs)) (hx : a.eval x = .pointer (some ⟨g, 0, none⟩))
    (hu : P.underlying ty = some d) (hd : (match d with | .struct _ | .array _ _ => true | _ => false) = true) (hsz : (P.info? ty).map (·.size) = some cs.size) (hE : Env w0 rs w)
    (h : walkS P md ops Q (Env w0 rs) fin m (listed.setIfInBounds k true) (a.put oi.dst (.agg cs)) w) : walkS P md ops Q (Env w0 rs) fin (m + 1) listed a w :=
  walkS_take hi hs hw (hQ _) m listed a w hf hr (.inl ⟨hgw, fun w' hS => run_load_row ty x ho g hx t cs (0, 0) d (hS.row i hi2) hu hd hsz⟩) hE h
end
end Go.Proofs.YtpgbicbjlhkonaaGreatDoor
end
section
namespace Go.Proofs.YtpgbicbjlhkonaaGreatDoor
open Go.RowKit
set_option linter.unusedVariables false
set_option maxRecDepth 20000

theorem zeroSec_get (i : Nat) (hi : i < 256) : ((cellsB zeroSec).toArray)[i]? = some (Value.int .u8 0) := by
  unfold cellsB zeroSec
  rw [List.getElem?_toArray, List.getElem?_map, List.getElem?_replicate, if_pos hi]; rfl
theorem madeSectors (n : Nat) : madeCells (Value.agg (cellsB zeroSec).toArray).cells (n * 256) = (cellsB (List.replicate n zeroSec).flatten).toArray := by
  have hz : ∀ i, i < 256 → (cellsB zeroSec).toArray[i]! = Value.int .u8 0 := by
    intro i hi
    have h := zeroSec_get i hi
    rw [Array.getElem!_eq_getD, Array.getD_eq_getD_getElem?, h]; rfl
  have hs : (cellsB zeroSec).toArray.size = 256 := by rw [List.size_toArray, cellsB_length, zeroSec_length]
  have hf : (List.replicate n zeroSec).flatten = List.replicate (n * 256) 0 := by
    unfold zeroSec
    rw [List.flatten_replicate_replicate]
  rw [hf]
  apply Array.ext_getElem?
  intro i
  show ((Array.range (n * 256)).map (fun j => (cellsB zeroSec).toArray[j % (cellsB zeroSec).toArray.size]!))[i]? = _
  rw [Array.getElem?_map]
  by_cases hi : i < n * 256
  · rw [Array.getElem?_range, if_pos hi]
    rw [Option.map_some, hs, hz _ (Nat.mod_lt _ (by omega))]
    rw [List.getElem?_toArray]
    simp only [cellsB, List.getElem?_map, List.getElem?_replicate, if_pos hi]
    rfl
  · rw [Array.getElem?_eq_none (by simp; omega), Array.getElem?_eq_none (by rw [List.size_toArray, cellsB_length, List.length_replicate]; omega)]
    rfl
theorem Tryz.builtDev (A B : Option Addr) (n c m k : Nat) : Tryz.prog.built 65 [(0, .slice A n c), (1, .slice B m k)] = some #[.slice A n c, .slice B m k, .slice none 0 0, .bool false, .int .i64 0, .bool false] := by kernel_rfl
theorem share_rows {P : Program} {md : Region.Mode} {ops : Array Oper} {Q : Exit → Act → World → Prop} {fin : Nat → Bool} {SS : World → Prop} {w : World} {m m' : Nat} {listed L' : Array Bool} {a : Act} {A : Nat → Nat → Act} (Φ : Nat → Nat → World → Prop)
    (hgo : ∀ u v x, Φ u v x → walkS P md ops Q SS fin m' L' (A u v) x) (h : (∀ u v x, Φ u v x → walkS P md ops Q SS fin m' L' (A u v) x) → walkS P md ops Q SS fin m listed a w) : walkS P md ops Q SS fin m listed a w := h hgo
theorem own_of_rowN {w : World} {g base n sz : Nat} {e : TypeId} {l : List Value} (h : RowAt w g e l.toArray) (hb : base ≤ g) (hm : n ≤ maxLen) (hl : l.length = n * sz) : w.ownsRow base e sz (.slice (some ⟨g, 0, none⟩) n n) n l :=
  ⟨hl, .inr ⟨g, n, _, rfl, hb, h, Nat.le_refl _, hm, by rw [List.size_toArray, hl], by rw [← hl]; exact List.take_length⟩⟩
set_option maxHeartbeats 2000000 in
theorem devNew_any (w : World) (n : Nat) (h1 : 1 ≤ n) (h2 : n ≤ 600) :
    Calls Tryz.prog 5 #[.int .i64 (n : Int)] w fun e w' => ∃ g gn cn gs cs vp, e = .returned (.tuple #[.pointer (some ⟨g, 0, none⟩), .int .i64 0]) ∧ DevIs w' g gn cn gs cs vp (Dev.new n) ∧ (∀ k, Foot g gn gs vp k → w.heap.size ≤ k) ∧ Below w.heap.size w w' := by
  have hd1 : decide ((n : Int) < 1) = false := by simp; omega
  have hd2 : decide ((600 : Int) < (n : Int)) = false := by simp; omega
  go_enter Tryz.func5, Tryz.ntmps5
  go_wp2_with fail
  have hS : Below w.heap.size w w.drew := (Below.refl _ _).drew
  refine plain_region (S := fun W => Below w.heap.size w W) (fin := fun _ => false) (by kernel_rfl) ?_
  change walkS _ _ _ _ _ _ 8 _ _ _
  refine walkS_take (i := 0) (oi := ⟨some 10, _, _, _, _, _⟩) (v := (.int .i64 (n : Int))) rfl (by kernel_rfl) (by kernel_rfl) (fun _ _ _ h => h) _ _ _ _ (by kernel_rfl) (by kernel_rfl) (Or.inl ⟨by rfl, fun w' hS' => (by clear hS hS'; go_simp)⟩) hS ?_
  try simp only [Act.put, List.setIfInBounds_toArray, List.set_cons_zero, List.set_cons_succ]
  refine walkS_take (i := 2) (oi := ⟨some 12, _, _, _, _, _⟩) (v := (.int .i64 (n : Int))) rfl (by kernel_rfl) (by kernel_rfl) (fun _ _ _ h => h) _ _ _ _ (by kernel_rfl) (by kernel_rfl) (Or.inl ⟨by rfl, fun w' hS' => (by clear hS hS'; go_simp)⟩) hS ?_
  try simp only [Act.put, List.setIfInBounds_toArray, List.set_cons_zero, List.set_cons_succ]
  refine share_rows (m' := ?mm) (L' := ?LL) (A := ?AA) (fun gn gs x => RowAt x gn 102 (cellsB (List.replicate n zeroSec).flatten).toArray ∧ RowAt x gs 102 (cellsB (List.replicate n zeroSec).flatten).toArray ∧ gn ≠ gs ∧ w.heap.size ≤ gn ∧ w.heap.size ≤ gs ∧ Below w.heap.size w x) ?hgo ?h
  case h =>
    intro hgo
    refine walkS_two (i := 1) (j := 3) (oi := ⟨some 11, _, _, _, _, _⟩) (oj := ⟨some 13, _, _, _, _, _⟩) (by kernel_rfl) rfl rfl rfl rfl (fun KK hKK => ?_) (fun KK hKK => ?_)
    · refine wp_makeR 60 102 (.tmp 10) (.tmp 10) rfl n n (by with_unfolding_all rfl) (by with_unfolding_all rfl) Tryz.underlying60 (.agg (cellsB zeroSec).toArray) 256 256 Tryz.infoSector _ (madeSectors n) (Nat.le_refl _) (by omega) (by omega) ?_
      intro gn w1 n1
      have b1 := below_size hS n1.below
      refine hKK _ _ (.inr b1) ?_
      try simp only [Act.put, List.setIfInBounds_toArray, List.set_cons_zero, List.set_cons_succ]
      clear hKK KK
      refine walkS_only (i := 3) (o := ⟨some 13, _, _, _, _, _⟩) (by kernel_rfl) rfl rfl fun KK hKK => ?_
      refine wp_makeR 60 102 (.tmp 12) (.tmp 12) rfl n n (by with_unfolding_all rfl) (by with_unfolding_all rfl) Tryz.underlying60 (.agg (cellsB zeroSec).toArray) 256 256 Tryz.infoSector _ (madeSectors n) (Nat.le_refl _) (by omega) (by omega) ?_
      intro gs w2 n2
      have b2 := below_size b1 n2.below
      refine hKK _ _ (.inr b2) ?_
      try simp only [Act.put, List.setIfInBounds_toArray, List.set_cons_zero, List.set_cons_succ]
      clear hKK KK
      have l1 := n1.row.lt
      have s1 := n1.spot
      have s2 := n2.spot
      have z1 := b1.size
      exact hgo gn gs w2 ⟨n1.row.kept n2.below, n2.row, by omega, by rw [s1]; exact hS.size, by omega, b2⟩
    · refine wp_makeR 60 102 (.tmp 12) (.tmp 12) rfl n n (by with_unfolding_all rfl) (by with_unfolding_all rfl) Tryz.underlying60 (.agg (cellsB zeroSec).toArray) 256 256 Tryz.infoSector _ (madeSectors n) (Nat.le_refl _) (by omega) (by omega) ?_
      intro gs w1 n1
      have b1 := below_size hS n1.below
      refine hKK _ _ (.inr b1) ?_
      try simp only [Act.put, List.setIfInBounds_toArray, List.set_cons_zero, List.set_cons_succ]
      clear hKK KK
      refine walkS_only (i := 1) (o := ⟨some 11, _, _, _, _, _⟩) (by kernel_rfl) rfl rfl fun KK hKK => ?_
      refine wp_makeR 60 102 (.tmp 10) (.tmp 10) rfl n n (by with_unfolding_all rfl) (by with_unfolding_all rfl) Tryz.underlying60 (.agg (cellsB zeroSec).toArray) 256 256 Tryz.infoSector _ (madeSectors n) (Nat.le_refl _) (by omega) (by omega) ?_
      intro gn w2 n2
      have b2 := below_size b1 n2.below
      refine hKK _ _ (.inr b2) ?_
      try simp only [Act.put, List.setIfInBounds_toArray, List.set_cons_zero, List.set_cons_succ]
      clear hKK KK
      have l1 := n1.row.lt
      have s1 := n1.spot
      have s2 := n2.spot
      have z1 := b1.size
      exact hgo gn gs w2 ⟨n2.row, n1.row.kept n2.below, by omega, by omega, by rw [s1]; exact hS.size, b2⟩
  case hgo =>
    intro gn gs w2 hΦ
    obtain ⟨rn, rs, hne, hn1, hs1, b2⟩ := hΦ
    have RN := Lib.hid rn
    have RS := Lib.hid rs
    clear rn rs hS
    refine walkS_only (i := 4) (o := ⟨some 14, _, _, _, _, _⟩) (by kernel_rfl) rfl rfl fun KK hKK => ?_
    refine wp_val (.agg #[.slice (some ⟨gn, 0, none⟩) n n, .slice (some ⟨gs, 0, none⟩) n n, .slice none 0 0, .bool false, .int .i64 0, .bool false]) (by exact run_builtOp 65 #[(0, .tmp 11), (1, .tmp 13)] rfl _ (by with_unfolding_all exact Tryz.builtDev _ _ _ _ _ _)) ?_
    refine hKK _ _ (.inr b2) ?_
    try simp only [Act.put, List.setIfInBounds_toArray, List.set_cons_zero, List.set_cons_succ]
    clear hKK KK
    refine walkS_only (i := 5) (o := ⟨some 15, _, _, _, _, _⟩) (by kernel_rfl) rfl rfl fun KK hKK => ?_
    refine wp_box_row 65 (.tmp 14) rfl #[.slice (some ⟨gn, 0, none⟩) n n, .slice (some ⟨gs, 0, none⟩) n n, .slice none 0 0, .bool false, .int .i64 0, .bool false] (by with_unfolding_all rfl) ?_
    intro g w3 n3
    have b3 := below_size b2 n3.below
    have N3 := Lib.hid n3
    clear n3
    refine hKK _ _ (.inr b3) ?_
    try simp only [Act.put, List.setIfInBounds_toArray, List.set_cons_zero, List.set_cons_succ]
    clear hKK KK
    refine walkS_only (i := 6) (o := ⟨some 2, _, _, _, _, _⟩) (by kernel_rfl) rfl rfl fun KK hKK => ?_
    go_simp
    refine hKK _ _ (.inr b3) ?_
    clear hKK KK
    refine walkS_only (i := 7) (o := ⟨some 3, _, _, _, _, _⟩) (by kernel_rfl) rfl rfl fun KK hKK => ?_
    go_simp
    refine hKK _ _ (.inr b3) ?_
    clear hKK KK
    refine walkS_done (by kernel_rfl) ?_ _
    go_wp2
    go_ret2
    have hln : (cellsB (List.replicate n zeroSec).flatten).length = n * 256 := by
      rw [cellsB_length, dflat_length (n := 256) (fun l hl => by rw [(List.mem_replicate.1 hl).2]; exact zeroSec_length), List.length_replicate]
    have hl2 : (Dev.new n).now.length = n := List.length_replicate
    have hm : n ≤ maxLen := by unfold maxLen; omega
    refine ⟨g, gn, n, gs, n, _, rfl, ⟨?_, ?_, ?_, World.ownsRow_nil _ _ _ _, hne, Dev.new_ok n h1 h2⟩, fun k hk => ?_, b3⟩
    · rw [hl2]; exact N3.out.row
    · rw [hl2]; exact own_of_rowN (RN.out.kept N3.out.below) (Nat.zero_le _) hm hln
    · rw [hl2]; exact own_of_rowN (RS.out.kept N3.out.below) (Nat.zero_le _) hm hln
    · rcases hk with rfl | rfl | rfl | hk
      · have := N3.out.spot
        have := b2.size
        omega
      · exact hn1
      · exact hs1
      · cases hk
theorem devNew_none (w : World) (n : Int) (h1 : n < 1 ∨ 600 < n) :
    Calls Tryz.prog 5 #[.int .i64 n] w fun e w' => e = .returned (.tuple #[.pointer none, .int .i64 1]) ∧ Below w.heap.size w w' := by
  by_cases h : n < 1
  · have hd1 : decide (n < 1) = true := by simp; omega
    go_enter Tryz.func5, Tryz.ntmps5
    go_wp2
    go_ret2
    exact ⟨rfl, Below.refl _ _⟩
  · have hd1 : decide (n < 1) = false := by simp; omega
    have hd2 : decide (600 < n) = true := by simp; omega
    go_enter Tryz.func5, Tryz.ntmps5
    go_wp2
    go_ret2
    exact ⟨rfl, Below.refl _ _⟩
end Go.Proofs.YtpgbicbjlhkonaaGreatDoor
end
section
namespace Go.Proofs.YtpgbicbjlhkonaaGreatDoor
open Go.RowKit
set_option linter.unusedVariables false
set_option maxRecDepth 20000

theorem own_some2 {w : World} {base n sz : Nat} {e : TypeId} {v : Value} {xs : List Value} (h : w.ownsRow base e sz v n xs) (hn : 1 ≤ n) : ∃ g c, v = .slice (some ⟨g, 0, none⟩) n c ∧ base ≤ g ∧ g < w.heap.size := by
  rcases h.2 with ⟨_, h0⟩ | ⟨g, c, cur, rfl, hb, hg, _⟩
  · omega
  · exact ⟨g, c, rfl, hb, RowAt.lt hg⟩
theorem own_base {w : World} {base b2 n sz : Nat} {e : TypeId} {v : Value} {xs : List Value} (h : w.ownsRow base e sz v n xs) (hb : b2 ≤ base) : w.ownsRow b2 e sz v n xs := by
  refine ⟨h.1, ?_⟩
  rcases h.2 with h1 | ⟨g, c, cur, h1, h2, h3⟩
  · exact .inl h1
  · exact .inr ⟨g, c, cur, h1, Nat.le_trans hb h2, h3⟩
theorem own_kept {w w' : World} {base n sz : Nat} {e : TypeId} {v : Value} {xs : List Value} (h : w.ownsRow base e sz v n xs) (hb : Below w.heap.size w w') : w'.ownsRow base e sz v n xs := (Turns.of_below (fun _ => False) hb).own h fun _ _ h => h
theorem Tryz.builtDevAll (u v x : Value) (hu : ∃ A n c, u = .slice A n c) (hv : ∃ A n c, v = .slice A n c) (hx : ∃ A n c, x = .slice A n c) (t : Bool) (l : Int) (b : Bool) : Tryz.prog.built 65 [(0, u), (1, v), (2, x), (3, .agg #[.bool t, .int .i64 l, .bool b])] = some #[u, v, x, .bool t, .int .i64 l, .bool b] := by
  obtain ⟨A, n, c, rfl⟩ := hu
  obtain ⟨A2, n2, c2, rfl⟩ := hv
  obtain ⟨A3, n3, c3, rfl⟩ := hx
  kernel_rfl
theorem fuse_range {w : World} {g gn cn gs cs : Nat} {vp : Value} {d : Dev} (h : DevIs w g gn cn gs cs vp d) : w.rangeAt g 3 [.bool d.there, .int .i64 d.left, .bool d.burnt] := by
  intro j v hj
  match j, hj with
  | 0, hj => exact h.cell 3 _ hj
  | 1, hj => exact h.cell 4 _ hj
  | 2, hj => exact h.cell 5 _ hj
end Go.Proofs.YtpgbicbjlhkonaaGreatDoor
end
section
namespace Go.Proofs.YtpgbicbjlhkonaaGreatDoor
open Go.RowKit

/-- The first k bytes are alike. -/
def alikeTo (a b : List UInt8) (k : Nat) : Prop := a.take k = b.take k

theorem alike_step (a b : List UInt8) (k : Nat) (ha : k < a.length) (hb : k < b.length) (h : alikeTo a b k) (he : a[k] = b[k]) : alikeTo a b (k + 1) := by
  unfold alikeTo at *
  rw [List.take_succ_eq_append_getElem ha, List.take_succ_eq_append_getElem hb, h, he]

theorem byte_eq {a b : UInt8} (h : ((a.toNat : Int) = (b.toNat : Int))) : a = b := UInt8.toNat_inj.1 (by omega)

set_option maxHeartbeats 400000 in
theorem refSame (w : World) (va vb : Value) (a b : List UInt8) (ha : Bs w va a) (hb : Bs w vb b) :
    Calls Tryz.prog 18 #[va, vb] w fun e w' => e = .returned (.bool (a == b)) ∧ ∃ n, w' = w.drewN n := by
  obtain ⟨A, ca, rfl, ha1, ha2, ha3⟩ := ha
  obtain ⟨B, cb, rfl, hb1, hb2, hb3⟩ := hb
  unfold maxLen at ha2 hb2
  by_cases hl : a.length = b.length
  · have hl1 : ((a.length : Int) != (b.length : Int)) = false := by simp [hl]
    have Hl := Lib.hid hl
    have hle : a.length ≤ b.length := by omega
    clear hl
    go_enter Tryz.func18, Tryz.ntmps18
    go_wp2
    go_loopw [5] (fun i wr => ∃ k n : Nat, k ≤ a.length ∧ i = .int .i64 k ∧ wr = w.drewN n ∧ alikeTo a b k) (fun i _ => a.length - (intOf i).toNat)
    case atStart => exact ⟨0, 0, Nat.zero_le _, rfl, rfl, by simp [alikeTo]⟩
    case round =>
      obtain ⟨k, n, hk, rfl, rfl, hal⟩ := hrel
      by_cases hlt : k < a.length
      · obtain ⟨b0, o0, rfl, hca⟩ := ha3 (by omega)
        obtain ⟨b1, o1, rfl, hcb⟩ := hb3 (by omega)
        have h0 := hca k hlt
        have h1 := hcb k (by omega)
        clear hca hcb
        by_cases he : a[k] = b[k]
        · have he1 : ((a[k].toNat : Int) != (b[k].toNat : Int)) = false := by simp [he]
          have He := Lib.hid he
          clear he
          go_wp2
          go_quiet (fail)
          go_wp2
          go_roundw
          case rel => exact ⟨k + 1, _, by omega, by go_num, rfl, alike_step a b k hlt (by omega) hal He.out⟩
          case measure => simp [intOf]; omega
        · have he1 : ((a[k].toNat : Int) != (b[k].toNat : Int)) = true := by
            rw [bne_iff_ne]; intro h; exact he (byte_eq h)
          have hfin : (a == b) = false := by
            rw [beq_eq_false_iff_ne]; rintro rfl; exact he rfl
          have Hf := Lib.hid hfin
          clear he hfin
          go_wp2
          go_quiet (fail)
          go_wp2
          go_ret
          exact ⟨by rw [Hf.out]; rfl, _, by first | rfl | exact World.drewN_drewN _ _ _⟩
      · have hfin : (a == b) = true := by
          rw [beq_iff_eq]
          have := Hl.out
          unfold alikeTo at hal
          rwa [List.take_of_length_le (by omega), List.take_of_length_le (by omega)] at hal
        have Hf := Lib.hid hfin
        clear hfin
        go_wp2
        go_ret
        exact ⟨by rw [Hf.out]; rfl, _, by first | rfl | exact World.drewN_drewN _ _ _⟩
  · have hl1 : ((a.length : Int) != (b.length : Int)) = true := by rw [bne_iff_ne]; omega
    have hfin : (a == b) = false := by
      rw [beq_eq_false_iff_ne]; rintro rfl; exact hl rfl
    have Hf := Lib.hid hfin
    clear hfin hl
    go_enter Tryz.func18, Tryz.ntmps18
    go_wp2
    go_ret
    exact ⟨by rw [Hf.out]; rfl, 0, rfl⟩
end Go.Proofs.YtpgbicbjlhkonaaGreatDoor
end
section
namespace Go.Proofs.YtpgbicbjlhkonaaGreatDoor
open Go.RowKit

theorem same_ret (w : World) (va vb : Value) (a b : List UInt8) (ha : Bs w va a) (hb : Bs w vb b) :
    Calls Tryz.prog 18 #[va, vb] w (RetV w (.bool (a == b))) := (refSame w va vb a b ha hb).mono fun _ _ h => RetV.quiet h
theorem same_yes (w : World) (va vb : Value) (a : List UInt8) (ha : Bs w va a) (hb : Bs w vb a) :
    Calls Tryz.prog 18 #[va, vb] w (RetV w (.bool true)) := by
  have := same_ret w va vb a a ha hb
  rwa [beq_self_eq_true] at this
end Go.Proofs.YtpgbicbjlhkonaaGreatDoor
end
section
namespace Go.Proofs.YtpgbicbjlhkonaaGreatDoor
open Go.RowKit
set_option linter.unusedVariables false
set_option maxRecDepth 20000

/-- A device that the call itself has made (its blocks' numbers are at least w0's size); what was there is as it was. -/
def DevOf (w0 w : World) (g : Nat) (d : Dev) : Prop := Below w0.heap.size w0 w ∧ ∃ gn cn gs cs vp, DevIs w g gn cn gs cs vp d ∧ ∀ k, Foot g gn gs vp k → w0.heap.size ≤ k
section
variable {w0 w w' : World} {g : Nat} {d : Dev}
theorem DevOf.ok (h : DevOf w0 w g d) : d.Ok := by obtain ⟨_, _, _, _, _, _, h, _⟩ := h; exact h.ok
theorem DevOf.below (h : DevOf w0 w g d) : Below w0.heap.size w0 w := h.1
theorem DevOf.kept (h : DevOf w0 w g d) (hb : Below w.heap.size w w') : DevOf w0 w' g d := by
  obtain ⟨b, gn, cn, gs, cs, vp, h, hF⟩ := h
  exact ⟨below_size b hb, gn, cn, gs, cs, vp, h.kept hb, hF⟩
theorem DevOf.ret (b : Below w0.heap.size w0 w) {gn cn gs cs : Nat} {vp : Value} (hF : ∀ k, Foot g gn gs vp k → w0.heap.size ≤ k) {v : Value} {e : Ending} (h : DevRet w g gn cn gs cs vp d v e w') : e = .returned v ∧ DevOf w0 w' g d := by
  obtain ⟨vp', he, hd, ht, hv⟩ := h
  refine ⟨he, ht.below b b.size hF, gn, cn, gs, cs, vp', hd, fun k hk => ?_⟩
  rcases hk with hk | hk | hk | hk
  · exact hF k (.inl hk)
  · exact hF k (.inr (.inl hk))
  · exact hF k (.inr (.inr (.inl hk)))
  · rcases hv k hk with h | h
    · exact hF k (.inr (.inr (.inr h)))
    · exact Nat.le_trans b.size h
theorem devNew_of (w : World) (n : Nat) (h1 : 1 ≤ n) (h2 : n ≤ 600) :
    Calls Tryz.prog 5 #[.int .i64 (n : Int)] w fun e w' => ∃ g, e = .returned (.tuple #[.pointer (some ⟨g, 0, none⟩), .int .i64 0]) ∧ DevOf w w' g (Dev.new n) :=
  (devNew_any w n h1 h2).mono fun e w' ⟨g, gn, cn, gs, cs, vp, he, hd, hF, hb⟩ => ⟨g, he, hb, gn, cn, gs, cs, vp, hd, hF⟩
theorem devWrite_of (h : DevOf w0 w g d) (i : Int) (vb : Value) (b : List UInt8) (hb : Bs w vb b) (hp : d.pend.length ≤ 1000000) :
    Calls Tryz.prog 19 #[.pointer (some ⟨g, 0, none⟩), .int .i64 i, vb] w fun e w' => e = .returned (.int .i64 (d.writeE i b)) ∧ DevOf w0 w' g (d.write i b) := by
  obtain ⟨b0, gn, cn, gs, cs, vp, h, hF⟩ := h
  exact (devWrite_any w g gn cn gs cs vp d h i vb b hb hp).mono fun e w' hr => DevOf.ret b0 hF hr
theorem devSync_of (h : DevOf w0 w g d) : Calls Tryz.prog 36 #[.pointer (some ⟨g, 0, none⟩)] w fun e w' => e = .returned (.int .i64 d.syncE) ∧ DevOf w0 w' g d.sync := by
  obtain ⟨b0, gn, cn, gs, cs, vp, h, hF⟩ := h
  exact (devSync_any w g gn cn gs cs vp d h).mono fun e w' hr => DevOf.ret b0 hF hr
theorem devFuse_of (h : DevOf w0 w g d) (n : Int) (hn : -9223372036854775808 ≤ n ∧ n ≤ 9223372036854775807) : Calls Tryz.prog 14 #[.pointer (some ⟨g, 0, none⟩), .int .i64 n] w fun e w' => e = .returned (.tuple #[]) ∧ DevOf w0 w' g (d.set n) := by
  obtain ⟨b0, gn, cn, gs, cs, vp, h, hF⟩ := h
  exact (devFuse_any w g gn cn gs cs vp d h n hn).mono fun e w' hr => DevOf.ret b0 hF hr
theorem Bls.low {v : Value} {l : List Bool} (h : Bls w v l) (hl : 0 < l.length) : ∀ k, v.ownBlock = some k → k < w.heap.size := by
  obtain ⟨A, c, rfl, _, _, h3⟩ := h
  obtain ⟨b, off, rfl, hc⟩ := h3 hl
  intro k hk
  obtain rfl : b = k := by simpa [Value.ownBlock] using hk
  exact World.block_lt_of_cell? w _ (hc 0 hl)
theorem devCrash_of (h : DevOf w0 w g d) (vk : Value) (keep : List Bool) (hk : Bls w0 vk keep) (hp : d.pend.length ≤ 1000000) :
    Calls Tryz.prog 12 #[.pointer (some ⟨g, 0, none⟩), vk] w fun e w' => e = .returned (.tuple #[]) ∧ DevOf w0 w' g (d.crash keep) := by
  obtain ⟨b0, gn, cn, gs, cs, vp, h, hF⟩ := h
  exact (devCrash_any w g gn cn gs cs vp d h vk keep (hk.below b0) (fun hl k hk2 hf => by have := hk.low hl k hk2; have := hF k hf; omega) hp).mono fun e w' hr => DevOf.ret b0 hF hr
theorem devRead_of (h : DevOf w0 w g d) (i : Int) :
    Calls Tryz.prog 26 #[.pointer (some ⟨g, 0, none⟩), .int .i64 i] w fun e w' => ∃ v, e = .returned (.tuple #[v, .int .i64 (d.readE i)]) ∧ OwnB w' w.heap.size 5 v (d.readB i) ∧ Below w.heap.size w w' := by
  obtain ⟨b0, gn, cn, gs, cs, vp, h, hF⟩ := h
  exact devRead_any w g gn cn gs cs vp d h i
theorem devLen_of (h : DevOf w0 w g d) : Calls Tryz.prog 57 #[.pointer (some ⟨g, 0, none⟩)] w (RetV w (.int .i64 (d.now.length : Int))) := by
  obtain ⟨b0, gn, cn, gs, cs, vp, h, hF⟩ := h
  exact devLen_any w g gn cn gs cs vp d h
theorem DevOf.older (h : DevOf w0 w g d) {g' : Nat} {d' : Dev} (h' : DevOf w w' g' d') : DevOf w0 w' g d := h.kept h'.1
theorem DevOf.since {w1 : World} (h : DevOf w1 w g d) (hb : Below w0.heap.size w0 w1) : DevOf w0 w g d := by
  obtain ⟨b, gn, cn, gs, cs, vp, h, hF⟩ := h
  exact ⟨below_size hb b, gn, cn, gs, cs, vp, h, fun k hk => Nat.le_trans hb.size (hF k hk)⟩
end

/-- What is to be done. -/
structure OpD where
  do_ : Int
  i : Int
  b : List UInt8
  keep : List Bool
def opC (o : OpD) (vb vk : Value) : List Value := [.int .i64 o.do_, .int .i64 o.i, vb, vk]
structure OpAt (w : World) (b off : Nat) (o : OpD) (vb vk : Value) : Prop where
  at_ : w.rangeAt b off (opC o vb vk)
  bs : Bs w vb o.b
  bls : Bls w vk o.keep
  low : -9223372036854775808 ≤ o.i ∧ o.i ≤ 9223372036854775807
def Ops (w : World) (v : Value) (l : List OpD) : Prop :=
  ∃ A c, v = .slice A l.length c ∧ l.length ≤ c ∧ c ≤ maxLen ∧ (0 < l.length → ∃ b off, A = some ⟨b, off, none⟩ ∧ ∀ j (hj : j < l.length), ∃ vb vk, OpAt w b (off + j * 4) l[j] vb vk)
theorem OpAt.below {w w' : World} {b off : Nat} {o : OpD} {vb vk : Value} (h : OpAt w b off o vb vk) (hb : Below w.heap.size w w') : OpAt w' b off o vb vk where
  at_ j v hj := by
    have h1 := h.at_ j v hj
    rw [← h1]
    exact hb.cell (World.block_lt_of_cell? w _ h1)
  bs := h.bs.below hb
  bls := h.bls.below hb
  low := h.low
theorem Ops.at_ {w : World} {A : Option Addr} {n c : Nat} {l : List OpD} (h : Ops w (.slice A n c) l) (j : Nat) (hj : j < l.length) : ∃ b off, A = some ⟨b, off, none⟩ ∧ ∃ vb vk, OpAt w b (off + j * 4) l[j] vb vk := by
  obtain ⟨A', c', hv, _, _, h3⟩ := h
  injection hv with e1 _ _
  obtain ⟨b, off, hA, hc⟩ := h3 (by omega)
  exact ⟨b, off, e1.trans hA, hc j hj⟩
end Go.Proofs.YtpgbicbjlhkonaaGreatDoor
end
section
namespace Go.Proofs.YtpgbicbjlhkonaaGreatDoor
open Go.RowKit
set_option linter.unusedVariables false
set_option maxRecDepth 20000

theorem Dev.readE_in {d : Dev} {k : Nat} (h : k < d.now.length) : d.readE k = 0 := by
  unfold Dev.readE Dev.has
  rw [decide_eq_true (by omega), decide_eq_true (by omega)]
  rfl
theorem Dev.readB_in {d : Dev} {k : Nat} (h : k < d.now.length) : d.readB k = d.now[k] := by
  unfold Dev.readB Dev.has
  rw [decide_eq_true (by omega), decide_eq_true (by omega)]
  simp [h]
theorem OpAt.cell {w : World} {b off : Nat} {o : OpD} {vb vk : Value} (h : OpAt w b off o vb vk) (i : Nat) (v : Value) (hv : (opC o vb vk)[i]? = some v) : w.cell? ⟨b, off + i, none⟩ = some v := h.at_ i v hv
/-- A device of eight sectors, behind whatever was done. -/
def Made (w0 w : World) (g n : Nat) : Prop := ∃ d, DevOf w0 w g d ∧ d.now.length = 8 ∧ d.pend.length ≤ n
end Go.Proofs.YtpgbicbjlhkonaaGreatDoor
end
