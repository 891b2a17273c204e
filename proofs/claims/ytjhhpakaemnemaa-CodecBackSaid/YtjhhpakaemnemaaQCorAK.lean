/-
  Texts that belong together, merged: CodV, CodQ, CodF. Conditions: as each theorem names them.
-/
import Derived.Test.YtjhhpakaemnemaaQCorAI
import Derived.Test.YtjhhpakaemnemaaQCorAG
import Derived.Test.YtjhhpakaemnemaaQCorAE
import Derived.Test.YtjhhpakaemnemaaQCorAC
import Derived.Test.YtjhhpakaemnemaaQCorAJ
section
namespace Go.Proofs.Ytjhhpakaemnemaa
open Go.RowKit
set_option linter.unusedVariables false
set_option maxRecDepth 20000

/-- The document's In at r, over the bytes b that bv reads as. -/
def RiAt (w : World) (r : Nat) (bv : Value) (b : List UInt8) (s : St) : Prop :=
  Bs w bv b ∧ ∃ at_ : Nat, RowAt w r 45 #[bv, .int .i64 (at_ : Int), .int .i64 s.e] ∧ at_ ≤ b.length ∧ (s.e = 0 → s.l = b.drop at_)
theorem no_u8R {w : World} {v : Value} {l : List UInt8} (h : Bs w v l) (a e : Int) : ∀ (j : Nat) (x : Int), (#[v, .int .i64 a, .int .i64 e] : Array Value)[j]? ≠ some (Value.int .u8 x) := by
  obtain ⟨A, c, rfl, _⟩ := h
  intro j x hx
  match j, hx with
  | 0, hx => simp at hx
  | 1, hx => simp at hx
  | 2, hx => simp at hx
theorem RiAt.kept {w w' : World} {r : Nat} {bv : Value} {b : List UInt8} {s : St} (h : RiAt w r bv b s) (hb : Below w.heap.size w w') : RiAt w' r bv b s := by
  obtain ⟨h0, a, h1, h2, h3⟩ := h
  exact ⟨h0.below hb, a, h1.kept hb, h2, h3⟩
theorem RiAt.lt {w : World} {r : Nat} {bv : Value} {b : List UInt8} {s : St} (h : RiAt w r bv b s) : r < w.heap.size := by obtain ⟨_, a, h1, _⟩ := h; exact h1.lt
theorem RiAt.bs {w w' : World} {r : Nat} {bv u : Value} {b l : List UInt8} {s : St} (h : RiAt w r bv b s) (hb : Bs w u l) (hg : w.grownBy w' (some r)) : Bs w' u l := by
  obtain ⟨h0, a, h1, _⟩ := h
  exact hb.turn h1 (no_u8R h0 _ _) hg
theorem RiAt.kl {w w' : World} {r : Nat} {bv u : Value} {b : List UInt8} {l : List (List UInt8)} {s : St} (h : RiAt w r bv b s) (hb : Kl w u l) (hg : w.grownBy w' (some r)) : Kl w' u l := by
  obtain ⟨h0, a, h1, _⟩ := h
  exact hb.turn h1 (no_u8R h0 _ _) hg
theorem RowAt.put3b {w : World} {i : Nat} {t : TypeId} {x y z : Value} (h : RowAt w i t #[x, y, z]) (a : Value) : RowAt (w.setCell ⟨i, 1, none⟩ a) i t #[x, a, z] := h.put 1 a
theorem RowAt.put3c {w : World} {i : Nat} {t : TypeId} {x y z : Value} (h : RowAt w i t #[x, y, z]) (a : Value) : RowAt (w.setCell ⟨i, 2, none⟩ a) i t #[x, y, a] := h.put 2 a

theorem take_yes (s : St) (n : Nat) (h : s.e = 0) (hn : n ≤ s.l.length) : s.take n = s.l.take n ∧ s.rest n = ⟨s.l.drop n, 0⟩ := by
  have e : s.taken n = s := by unfold St.taken; exact if_neg (by omega)
  unfold St.take St.rest
  rw [e, if_pos h, if_pos h]
  exact ⟨rfl, rfl⟩
set_option maxHeartbeats 1000000 in
theorem riFail_any (w : World) (r : Nat) (bv : Value) (b : List UInt8) (s : St) (x : Int) (hx : x ≠ 0) (h : RiAt w r bv b s) :
    Calls Try.prog 51 #[.pointer (some ⟨r, 0, none⟩), .int .i64 x] w fun e w' => e = .returned (.tuple #[]) ∧ RiAt w' r bv b (s.fail x) ∧ w.grownBy w' (some r) := by
  have HH := Lib.hid h
  obtain ⟨l, y⟩ := s
  obtain ⟨hv, a, hr, ha, hl⟩ := h
  have c2 : w.cell? ⟨r, 2, none⟩ = some (.int .i64 y) := hr.cell 2
  have z2 : w.frozen? ⟨r, 2, none⟩ = false := hr.frozen 2
  have HR := Lib.hid hr
  have HV := Lib.hid hv
  clear hr hl hv
  by_cases hy : y = 0
  · subst hy
    go_enter Try.func51, Try.ntmps51
    go_wp2
    go_end0
    exact ⟨rfl, ⟨HV.out.turn HR.out (no_u8R HV.out _ _) (grown_setCell _ _ _ _), a, HR.out.put3c _, ha, fun e => absurd e hx⟩, grown_setCell _ _ _ _⟩
  · have hd : decide (y = 0) = false := by simp [hy]
    go_enter Try.func51, Try.ntmps51
    go_wp2
    go_end0
    refine ⟨rfl, ?_, World.grownBy.refl _ _⟩
    unfold St.fail
    rw [if_neg hy]
    exact HH.out

/-- A slice that lies in the block of another. -/
def InB (v bv : Value) : Prop := ∀ k, v.ownBlock = some k → bv.ownBlock = some k
theorem InB.nil (n c : Nat) (bv : Value) : InB (.slice none n c) bv := fun k h => by cases h
theorem InB.same (A : Option Addr) (n c n2 c2 : Nat) : InB (.slice A n c) (.slice A n2 c2) := fun k h => by
  cases A with
  | none => cases h
  | some p => exact h
theorem InB.add (A : Option Addr) (n c n2 c2 j : Nat) : InB (.slice (A.map fun x => x.add j) n c) (.slice A n2 c2) := fun k h => by
  cases A with
  | none => cases h
  | some p =>
    have e : (p.add j).block = p.block := by unfold Addr.add; split <;> rfl
    have h2 : some (p.add j).block = some k := h
    rw [e] at h2
    exact h2
set_option maxHeartbeats 2000000 in
theorem riTakeIn (w : World) (r : Nat) (bv : Value) (b : List UInt8) (s : St) (n : Nat) (hn : n ≤ 100000000) (hbl : b.length ≤ 1000000000) (h : RiAt w r bv b s) :
    Calls Try.prog 53 #[.pointer (some ⟨r, 0, none⟩), .int .i64 (n : Int)] w fun e w' => ∃ v, e = .returned v ∧ (Bs w' v (s.take n) ∧ InB v bv) ∧ RiAt w' r bv b (s.rest n) ∧ w.grownBy w' (some r) := by
  have HH := Lib.hid h
  obtain ⟨l, y⟩ := s
  obtain ⟨hv, a, hr, ha, hl⟩ := h
  have c0 : w.cell? ⟨r, 0, none⟩ = some bv := hr.cell 0
  have c1 : w.cell? ⟨r, 1, none⟩ = some (.int .i64 (a : Int)) := hr.cell 1
  have c2 : w.cell? ⟨r, 2, none⟩ = some (.int .i64 y) := hr.cell 2
  have z1 : w.frozen? ⟨r, 1, none⟩ = false := hr.frozen 1
  have z2 : w.frozen? ⟨r, 2, none⟩ = false := hr.frozen 2
  have HR := Lib.hid hr
  have HV := Lib.hid hv
  obtain ⟨A, c, rfl, h1, h2, _⟩ := hv
  unfold maxLen at h2
  simp only at hl
  have hw1 : IntKind.i64.wrap ((a : Int) + (n : Int)) = (a : Int) + (n : Int) := IntWalk.i64_in _ (by omega)
  clear hr
  by_cases hy : y = 0
  · subst hy
    have hle : l = b.drop a := hl rfl
    have hll : l.length = b.length - a := by rw [hle, List.length_drop]
    by_cases hs : (b.length : Int) < (a : Int) + (n : Int)
    · obtain ⟨t1, t2⟩ := take_no ⟨l, 0⟩ n rfl (by simp only; omega)
      have T1 := Lib.hid t1
      have T2 := Lib.hid t2
      clear t1 t2 hl hle hll
      go_enter Try.func53, Try.ntmps53
      go_wp2
      go_quiet (fail)
      go_wp2
      go_ret
      have hg := grown_setCell (w.drewN nq) r 2 (.int .i64 3)
      have hg2 : w.grownBy ((w.drewN nq).setCell ⟨r, 2, none⟩ (.int .i64 3)) (some r) := (grown_drewN (World.grownBy.refl w (some r)) nq).trans hg
      exact ⟨_, rfl, ⟨by rw [T1.out]; exact Bs.nil _, InB.nil _ _ _⟩, by rw [T2.out]; exact ⟨(HV.out.drewN nq).turn (HR.out.drewN nq) (no_u8R HV.out _ _) hg, a, (HR.out.drewN nq).put3c _, ha, fun e => absurd e (by decide)⟩, hg2⟩
    · obtain ⟨t1, t2⟩ := take_yes ⟨l, 0⟩ n rfl (by simp only; omega)
      simp only at t1 t2
      rw [hle, List.drop_drop] at t2
      rw [hle] at t1
      have T1 : Hid (St.take ⟨l, 0⟩ n = (b.drop a).take n) := by show _ = _; rw [← t1, hle]
      have T2 : Hid (St.rest ⟨l, 0⟩ n = ⟨b.drop (a + n), 0⟩) := by show _ = _; rw [← t2, hle]
      clear t1 t2
      have HCT := Lib.hid ((HV.out.cut a ha).fore n (by rw [List.length_drop]; omega))
      have hw2 : IntKind.i64.wrap ((a : Int) + (n : Int) - (n : Int)) = (a : Int) := by rw [IntWalk.i64_in _ (by omega)]; omega
      have hb0 : (0 : Int) ≤ (a : Int) := by omega
      have hb1 : (a : Int) ≤ (a : Int) + (n : Int) := by omega
      have hb2 : (a : Int) + (n : Int) ≤ (c : Int) := by omega
      have hb3 : (0 : Int) ≤ (a : Int) + (n : Int) := by omega
      have hb4 : ((a : Int) + (n : Int)).toNat = a + n := by omega
      have hb5 : a + n - a = n := by omega
      have hq1 : (a : Int) + (n : Int) - (n : Int) = (a : Int) := by omega
      clear hl hle hll
      by_cases hca : c = a
      · rw [if_pos hca, show c - a = 0 by omega] at HCT
        have HP : Hid (((a + n : Nat) : Int) = (a : Int) + (n : Int)) := by show _ = _; omega
        go_enter Try.func53, Try.ntmps53
        go_wp2
        go_quiet (fail)
        go_wp2
        go_quiet (fail)
        go_wp2
        go_ret
        exact ⟨_, rfl, ⟨by rw [T1.out]; exact ((HCT.out.drewN _).turn (HR.out.drewN _) (no_u8R HV.out _ _) (grown_setCell _ _ _ _)).drewN _, InB.same _ _ _ _ _⟩, by rw [T2.out]; exact ⟨((HV.out.drewN _).turn (HR.out.drewN _) (no_u8R HV.out _ _) (grown_setCell _ _ _ _)).drewN _, a + n, by rw [HP.out]; exact ((HR.out.drewN _).put3b _).drewN _, by omega, fun _ => rfl⟩, grown_drewN ((grown_drewN (World.grownBy.refl w (some r)) _).trans (grown_setCell _ r 1 _)) _⟩
      · rw [if_neg hca] at HCT
        have HP : Hid (((a + n : Nat) : Int) = (a : Int) + (n : Int)) := by show _ = _; omega
        go_enter Try.func53, Try.ntmps53
        go_wp2
        go_quiet (fail)
        go_wp2
        go_quiet (fail)
        go_wp2
        go_ret
        exact ⟨_, rfl, ⟨by rw [T1.out]; exact ((HCT.out.drewN _).turn (HR.out.drewN _) (no_u8R HV.out _ _) (grown_setCell _ _ _ _)).drewN _, InB.add _ _ _ _ _ _⟩, by rw [T2.out]; exact ⟨((HV.out.drewN _).turn (HR.out.drewN _) (no_u8R HV.out _ _) (grown_setCell _ _ _ _)).drewN _, a + n, by rw [HP.out]; exact ((HR.out.drewN _).put3b _).drewN _, by omega, fun _ => rfl⟩, grown_drewN ((grown_drewN (World.grownBy.refl w (some r)) _).trans (grown_setCell _ r 1 _)) _⟩
  · obtain ⟨t1, t2⟩ := take_err ⟨l, y⟩ n hy
    have T1 := Lib.hid t1
    have T2 := Lib.hid t2
    have hd : decide (y = 0) = false := by simp [hy]
    clear t1 t2 hl
    go_enter Try.func53, Try.ntmps53
    go_wp2
    go_quiet (fail)
    go_wp2
    go_ret
    exact ⟨_, rfl, ⟨by rw [T1.out]; exact Bs.nil _, InB.nil _ _ _⟩, by rw [T2.out]; exact HH.out.kept (below_drewN (Below.refl _ _) nq), grown_drewN (World.grownBy.refl w (some r)) nq⟩

theorem riTake_any (w : World) (r : Nat) (bv : Value) (b : List UInt8) (s : St) (n : Nat) (hn : n ≤ 100000000) (hbl : b.length ≤ 1000000000) (h : RiAt w r bv b s) :
    Calls Try.prog 53 #[.pointer (some ⟨r, 0, none⟩), .int .i64 (n : Int)] w fun e w' => ∃ v, e = .returned v ∧ Bs w' v (s.take n) ∧ RiAt w' r bv b (s.rest n) ∧ w.grownBy w' (some r) :=
  (riTakeIn w r bv b s n hn hbl h).mono fun _ _ ⟨v, h1, h2, h3⟩ => ⟨v, h1, h2.1, h3⟩

set_option maxHeartbeats 1000000 in
theorem riNumber_any (w : World) (r : Nat) (bv : Value) (b : List UInt8) (s : St) (z : Int) (hbl : b.length ≤ 1000000000) (h : RiAt w r bv b s) :
    Calls Try.prog 20 #[.pointer (some ⟨r, 0, none⟩), .int .i64 z] w fun e w' => e = .returned (.int .u64 (s.num z : Int)) ∧ RiAt w' r bv b (s.numS z) ∧ w.grownBy w' (some r) := by
  have HH := Lib.hid h
  have HZ : Hid (∀ w, Calls Try.prog 50 #[.int .i64 z] w fun e w' => e = .returned (.bool (isNum z)) ∧ w = w') := fun w => refSize_any w z
  clear h
  by_cases hz : isNum z = true
  · obtain ⟨n, rfl⟩ : ∃ n : Nat, z = n := ⟨z.toNat, by have := inNum_shape z hz; omega⟩
    have hn8 : n ≤ 8 := by have := inNum_shape n hz; omega
    have H1 : Hid (s.num n = ofHighB ((s.take n).take 8)) := by show _ = _; unfold St.num; rw [if_pos hz]; rfl
    have H2 : Hid (s.numS n = s.rest n) := by show _ = _; unfold St.numS; rw [if_pos hz]; rfl
    have HT := Lib.hid (fun w h => riTake_any w r bv b s n (by omega) hbl h)
    rw [hz] at HZ
    clear hz
    go_enter Try.func20, Try.ntmps20
    go_wp2_with fail
    refine (HZ.out _).mono ?_
    intro e w1 hh
    obtain ⟨he, hw⟩ := hh
    subst he hw
    go_wp2_with fail
    refine (HT.out _ HH.out).mono ?_
    intro e w2 hh
    obtain ⟨v, he, hv, hi, hg⟩ := hh
    subst he
    have HI2 := Lib.hid hi
    have HG2 := Lib.hid hg
    have HV := Lib.hid hv
    obtain ⟨A, c, rfl, _, _, _⟩ := hv
    clear hi hg
    go_wp2_with fail
    refine (refOfHigh_any _ _ _ HV.out).mono ?_
    intro e w3 hh
    obtain ⟨he, hw⟩ := hh
    subst he hw
    go_wp2
    go_ret
    exact ⟨by rw [H1.out]; rfl, by rw [H2.out]; exact HI2.out, HG2.out⟩
  · have hz : isNum z = false := by simpa using hz
    have H1 : Hid (s.num z = 0) := by show _ = _; unfold St.num; rw [hz]; rfl
    have H2 : Hid (s.numS z = s.fail 51) := by show _ = _; unfold St.numS; rw [hz]; rfl
    have HT := Lib.hid (fun w h => riFail_any w r bv b s 51 (by decide) h)
    rw [hz] at HZ
    clear hz
    go_enter Try.func20, Try.ntmps20
    go_wp2_with fail
    refine (HZ.out _).mono ?_
    intro e w1 hh
    obtain ⟨he, hw⟩ := hh
    subst he hw
    go_wp2_with fail
    refine (HT.out _ HH.out).mono ?_
    intro e w2 hh
    obtain ⟨he, hi, hg⟩ := hh
    subst he
    have HI2 := Lib.hid hi
    have HG2 := Lib.hid hg
    clear hi hg
    go_wp2
    go_ret
    exact ⟨by rw [H1.out]; rfl, by rw [H2.out]; exact HI2.out, HG2.out⟩

/-- The document's way to say too many: the first error stays, and what is taken then is nothing. -/
def St.cap (s : St) (m : Int) (k : Int) : St := if (s.num 2 : Int) > m ∨ (s.num 2 : Int) > k then (s.numS 2).fail 2 else s.numS 2
theorem cap_take (s : St) (m k : Int) (f : Nat) : (s.cap m k).take (f * s.num 2) = (s.cntS (min m k)).take (f * s.cnt (min m k)) ∧ (s.cap m k).rest (f * s.num 2) = (s.cntS (min m k)).rest (f * s.cnt (min m k)) := by
  unfold St.cap St.cntS St.cnt
  by_cases h : (s.num 2 : Int) > m ∨ (s.num 2 : Int) > k
  · have h2 : (s.num 2 : Int) > min m k := by omega
    rw [if_pos h, if_pos h2, if_pos h2]
    have hne := fail_ne (s.numS 2) 2 (by decide)
    obtain ⟨a1, a2⟩ := take_err _ (f * s.num 2) hne
    obtain ⟨b1, b2⟩ := take_err _ (f * 0) hne
    rw [a1, a2, b1, b2]
    exact ⟨rfl, rfl⟩
  · have h2 : ¬ ((s.num 2 : Int) > min m k) := by omega
    rw [if_neg h, if_neg h2, if_neg h2]
    exact ⟨rfl, rfl⟩
set_option maxHeartbeats 1000000 in
theorem riBytesIn (w : World) (r : Nat) (bv : Value) (b : List UInt8) (s : St) (m : Int) (hbl : b.length ≤ 1000000000) (h : RiAt w r bv b s) :
    Calls Try.prog 22 #[.pointer (some ⟨r, 0, none⟩), .int .i64 m] w fun e w' => ∃ v, e = .returned v ∧ (Bs w' v (s.byt m) ∧ InB v bv) ∧ RiAt w' r bv b (s.bytS m) ∧ w.grownBy w' (some r) := by
  have HH := Lib.hid h
  have HN := Lib.hid (fun w h => riNumber_any w r bv b s 2 hbl h)
  obtain ⟨t1, t2⟩ := cap_take s m 4000 1
  rw [Nat.one_mul, Nat.one_mul] at t1 t2
  have H1 : Hid (s.byt m = (s.cap m 4000).take (s.num 2)) := t1.symm
  have H2 : Hid (s.bytS m = (s.cap m 4000).rest (s.num 2)) := t2.symm
  have hlt := s.num_lt
  obtain ⟨N, hN⟩ : ∃ N, N = s.num 2 := ⟨_, rfl⟩
  obtain ⟨S, hS⟩ : ∃ S, S = s.numS 2 := ⟨_, rfl⟩
  have hw : IntKind.i64.wrap (N : Int) = (N : Int) := IntWalk.i64_in _ (by omega)
  have hcap : s.cap m 4000 = if (N : Int) > m ∨ (N : Int) > 4000 then S.fail 2 else S := by rw [hN, hS]; rfl
  obtain ⟨C, hC⟩ : ∃ C, C = s.cap m 4000 := ⟨_, rfl⟩
  have HT := Lib.hid (fun w h => riTakeIn w r bv b C N (by omega) hbl h)
  have HF := Lib.hid (fun w h => riFail_any w r bv b S 2 (by decide) h)
  rw [← hC] at H1 H2 hcap
  rw [← hN] at H1 H2 HN
  rw [← hS] at HN
  clear h t1 t2 hN hS hC hlt
  by_cases hm : m < (N : Int)
  · have hCF : C = S.fail 2 := by rw [hcap, if_pos (.inl hm)]
    subst hCF
    clear hcap
    go_enter Try.func22, Try.ntmps22
    go_wp2_with fail
    refine (HN.out _ HH.out).mono ?_
    intro e w1 hh
    obtain ⟨he, hi, hg⟩ := hh
    subst he
    have I1 := Lib.hid hi
    have G1 := Lib.hid hg
    clear hi hg
    go_wp2_with fail
    refine (HF.out _ I1.out).mono ?_
    intro e w2 hh
    obtain ⟨he, hi, hg⟩ := hh
    subst he
    have I2 := Lib.hid hi
    have G2 := Lib.hid (G1.out.trans hg)
    clear hi hg
    go_wp2_with fail
    refine (HT.out _ I2.out).mono ?_
    intro e w3 hh
    obtain ⟨v, he, ⟨hv, hin⟩, hi, hg⟩ := hh
    subst he
    have I3 := Lib.hid hi
    have G3 := Lib.hid (G2.out.trans hg)
    have V3 := Lib.hid hv
    have N3 := Lib.hid hin
    obtain ⟨A, c, rfl, _, _, _⟩ := hv
    clear hin
    clear hi hg
    go_wp2
    go_ret
    exact ⟨_, rfl, ⟨by rw [H1.out]; exact V3.out, N3.out⟩, by rw [H2.out]; exact I3.out, G3.out⟩
  · by_cases hk : (4000 : Int) < (N : Int)
    · have hCF : C = S.fail 2 := by rw [hcap, if_pos (.inr hk)]
      subst hCF
      clear hcap
      go_enter Try.func22, Try.ntmps22
      go_wp2_with fail
      refine (HN.out _ HH.out).mono ?_
      intro e w1 hh
      obtain ⟨he, hi, hg⟩ := hh
      subst he
      have I1 := Lib.hid hi
      have G1 := Lib.hid hg
      clear hi hg
      go_wp2_with fail
      refine (HF.out _ I1.out).mono ?_
      intro e w2 hh
      obtain ⟨he, hi, hg⟩ := hh
      subst he
      have I2 := Lib.hid hi
      have G2 := Lib.hid (G1.out.trans hg)
      clear hi hg
      go_wp2_with fail
      refine (HT.out _ I2.out).mono ?_
      intro e w3 hh
      obtain ⟨v, he, ⟨hv, hin⟩, hi, hg⟩ := hh
      subst he
      have I3 := Lib.hid hi
      have G3 := Lib.hid (G2.out.trans hg)
      have V3 := Lib.hid hv
      have N3 := Lib.hid hin
      obtain ⟨A, c, rfl, _, _, _⟩ := hv
      clear hin
      clear hi hg
      go_wp2
      go_ret
      exact ⟨_, rfl, ⟨by rw [H1.out]; exact V3.out, N3.out⟩, by rw [H2.out]; exact I3.out, G3.out⟩
    · have hCF : C = S := by rw [hcap, if_neg (by omega)]
      subst hCF
      clear hcap HF
      go_enter Try.func22, Try.ntmps22
      go_wp2_with fail
      refine (HN.out _ HH.out).mono ?_
      intro e w1 hh
      obtain ⟨he, hi, hg⟩ := hh
      subst he
      have I1 := Lib.hid hi
      have G1 := Lib.hid hg
      clear hi hg
      go_wp2_with fail
      refine (HT.out _ I1.out).mono ?_
      intro e w3 hh
      obtain ⟨v, he, ⟨hv, hin⟩, hi, hg⟩ := hh
      subst he
      have I3 := Lib.hid hi
      have G3 := Lib.hid (G1.out.trans hg)
      have V3 := Lib.hid hv
      have N3 := Lib.hid hin
      obtain ⟨A, c, rfl, _, _, _⟩ := hv
      clear hin
      clear hi hg
      go_wp2
      go_ret
      exact ⟨_, rfl, ⟨by rw [H1.out]; exact V3.out, N3.out⟩, by rw [H2.out]; exact I3.out, G3.out⟩

theorem riBytes_any (w : World) (r : Nat) (bv : Value) (b : List UInt8) (s : St) (m : Int) (hbl : b.length ≤ 1000000000) (h : RiAt w r bv b s) :
    Calls Try.prog 22 #[.pointer (some ⟨r, 0, none⟩), .int .i64 m] w fun e w' => ∃ v, e = .returned v ∧ Bs w' v (s.byt m) ∧ RiAt w' r bv b (s.bytS m) ∧ w.grownBy w' (some r) :=
  (riBytesIn w r bv b s m hbl h).mono fun _ _ ⟨v, h1, h2, h3⟩ => ⟨v, h1, h2.1, h3⟩

set_option maxHeartbeats 1000000 in
theorem riEnd_any (w : World) (r : Nat) (bv : Value) (b : List UInt8) (s : St) (h : RiAt w r bv b s) :
    Calls Try.prog 29 #[.pointer (some ⟨r, 0, none⟩)] w fun e w' => e = .returned (.int .i64 s.fin) ∧ Below w.heap.size w w' := by
  obtain ⟨l, y⟩ := s
  obtain ⟨hv, a, hr, ha, hl⟩ := h
  have c0 : w.cell? ⟨r, 0, none⟩ = some bv := hr.cell 0
  have c1 : w.cell? ⟨r, 1, none⟩ = some (.int .i64 (a : Int)) := hr.cell 1
  have c2 : w.cell? ⟨r, 2, none⟩ = some (.int .i64 y) := hr.cell 2
  obtain ⟨A, c, rfl, h1, h2, _⟩ := hv
  simp only at hl c2
  clear hr
  by_cases hy : y = 0
  · subst hy
    have hle : l = b.drop a := hl rfl
    by_cases hlt : (a : Int) < (b.length : Int)
    · have HF : Hid ((St.mk l 0).fin = 50) := by show _ = _; unfold St.fin; rw [if_pos rfl, if_neg (by simp only; intro e; rw [hle] at e; have := congrArg List.length e; rw [List.length_drop, List.length_nil] at this; omega)]
      clear hl hle
      go_enter Try.func29, Try.ntmps29
      go_wp2
      go_quiet (fail)
      go_wp2
      go_ret
      exact ⟨by rw [HF.out]; rfl, below_drewN (Below.refl _ _) _⟩
    · have HF : Hid ((St.mk l 0).fin = 0) := by show _ = _; unfold St.fin; rw [if_pos rfl, if_pos (by simp only; rw [hle]; exact List.drop_eq_nil_of_le (by omega))]
      clear hl hle
      go_enter Try.func29, Try.ntmps29
      go_wp2
      go_quiet (fail)
      go_wp2
      go_ret
      exact ⟨by rw [HF.out]; rfl, below_drewN (Below.refl _ _) _⟩
  · have hd : decide (y = 0) = false := by simp [hy]
    have HF : Hid ((St.mk l y).fin = y) := by show _ = _; unfold St.fin; rw [if_neg hy]
    clear hl
    go_enter Try.func29, Try.ntmps29
    go_wp2
    go_quiet (fail)
    go_wp2
    go_ret
    exact ⟨by rw [HF.out]; rfl, below_drewN (Below.refl _ _) _⟩

set_option maxHeartbeats 1000000 in
theorem riKey_any (w : World) (r : Nat) (bv : Value) (b : List UInt8) (s : St) (hbl : b.length ≤ 1000000000) (h : RiAt w r bv b s) :
    Calls Try.prog 24 #[.pointer (some ⟨r, 0, none⟩)] w fun e w' => e = .returned (.agg (keyC s.key)) ∧ RiAt w' r bv b (s.rest 32) ∧ w.grownBy w' (some r) := by
  have HH := Lib.hid h
  have hrl := h.lt
  have HT := Lib.hid (fun w h => riTake_any w r bv b s 32 (by omega) hbl h)
  have HK : Hid ((if (s.take 32).length = 32 then s.take 32 else zeroKey) = s.key) := rfl
  have LK : Hid (s.key.length = 32) := by
    show _ = _
    rw [← HK.out]
    split
    · assumption
    · exact zeroKey_length
  obtain ⟨E, hE⟩ : ∃ E : Int, E = if (s.take 32).length = 32 then 0 else if (s.take 32).length < 32 then 3 else 2 := ⟨_, rfl⟩
  have HTK : Hid (∀ w v, Bs w v (s.take 32) → Calls Try.prog 55 #[v] w (RetV w (.tuple #[keyV s.key, .int .i64 E]))) := fun w v h => by rw [hE, ← HK.out]; exact refToKey_any w v _ h
  obtain ⟨key, hkey⟩ : ∃ key, key = s.key := ⟨_, rfl⟩
  rw [← hkey] at LK HTK
  have HKY := Lib.hid hkey
  clear h hE HK hkey
  go_enter Try.func24, Try.ntmps24
  go_wp2_with ((with_reducible refine wpList_alloc_row (o := ⟨some 2, _, _, _, _, _⟩) rfl 52 rfl (keyC zeroKey) Try.zeroK ?_); intro g2 w1 n1)
  have hs := n1.spot
  have hge : w.heap.size ≤ g2 := by omega
  have hne : g2 ≠ r := by omega
  refine (HT.out _ (HH.out.kept n1.below)).mono ?_
  intro e w2 hh
  obtain ⟨v, he, hv, hi, hg⟩ := hh
  subst he
  have R2 := Lib.hid (n1.row.grown hg (by simp [hne]))
  have G2 := Lib.hid ((grown_any n1.below (some r)).trans hg)
  have I2 := Lib.hid hi
  have V2 := Lib.hid hv
  obtain ⟨A, c, rfl, _, _, _⟩ := hv
  clear hi hg n1 hs
  go_wp2_with fail
  refine (HTK.out _ _ V2.out).mono ?_
  intro e w3 hh
  obtain ⟨he, b3⟩ := hh
  subst he
  have R3 := Lib.hid (R2.out.kept b3)
  have G3 := Lib.hid (G2.out.trans (grown_any b3 (some r)))
  have I3 := Lib.hid (I2.out.kept b3)
  clear b3 R2 G2 I2 V2
  have hrz : r < w3.heap.size := I3.out.lt
  go_wp2_with (first
    | ((with_reducible refine wpList_alloc_row (o := ⟨some 3, _, _, _, _, _⟩) rfl 52 rfl (keyC zeroKey) Try.zeroK ?_); intro g3 w4 n4)
    | ((with_reducible refine wpList_store_row (o := ⟨none, _, _, _, _, _⟩) rfl 52 (.tmp 3) (.tmp 9) rfl g3 52 (keyC zeroKey) (keyC key) (by with_unfolding_all rfl) (by with_unfolding_all rfl) n4.row (keyC_same zeroKey_length LK.out) (Try.sizeKey _ LK.out) (keyC_one _) ?_); intro w5 p5; have hb5 : Below w3.heap.size w3 w5 := p5.below n4.below n4.below.size (by rw [n4.spot]; exact Nat.le_refl _))
    | (with_reducible refine wpList_load_row (o := ⟨some 11, _, _, _, _, _⟩) rfl 52 (.tmp 3) rfl g3 (by with_unfolding_all rfl) 52 (keyC key) (0, 0) (.array 32 5) (by with_unfolding_all exact p5.row) Try.underlying52 rfl (Try.sizeKey key LK.out) ?_)
    | ((with_reducible refine wpList_store_row (o := ⟨none, _, _, _, _, _⟩) rfl 52 (.tmp 2) (.tmp 11) rfl g2 52 (keyC zeroKey) (keyC key) (by with_unfolding_all rfl) (by with_unfolding_all rfl) (R3.out.kept hb5) (keyC_same zeroKey_length LK.out) (Try.sizeKey _ LK.out) (keyC_one _) ?_); intro w6 p6))
  have G6 := grown_past (G3.out.trans (grown_any hb5 (some r))) p6.grown (fun k e => by injection e with e; omega)
  refine bodyPost_ret (results_cell_row rfl _ _ g2 52 (keyC key) (0, 0) (.array 32 5) rfl p6.row Try.underlying52 rfl (Try.sizeKey _ LK.out)) rfl ?_
  refine ⟨by rw [HKY.out], ?_, G6⟩
  obtain ⟨h0, a, h1, h2, h3⟩ := I3.out
  exact ⟨HH.out.bs HH.out.1 G6, a, (h1.kept hb5).grown p6.grown (by simp [hne.symm]), h2, h3⟩
end Go.Proofs.Ytjhhpakaemnemaa
end
section
namespace Go.Proofs.Ytjhhpakaemnemaa
open Go.RowKit
set_option linter.unusedVariables false
set_option maxRecDepth 20000

set_option maxHeartbeats 2000000 in
theorem refKeys_same (w : World) (va vb : Value) (L : List (List UInt8)) (ha : Kl w va L) (hb : Kl w vb L) (hL1 : L.length ≤ 1000) :
    Calls Try.prog 25 #[va, vb] w fun e w' => e = .returned (.bool true) ∧ Below w.heap.size w w' := by
  obtain ⟨A, ca, rfl, p1, p2, p3, p4⟩ := ha
  obtain ⟨B, cb, rfl, q1, q2, _, q4⟩ := hb
  have HL := Lib.hid p3
  unfold maxLen at p2 q2
  obtain ⟨n, hn⟩ : ∃ n, n = L.length := ⟨_, rfl⟩
  rw [← hn] at p1 p4 q1 q4 hL1 ⊢
  have HLN := Lib.hid hn
  clear hn p3
  by_cases h0 : 0 < n
  · obtain ⟨ga, oa, rfl, hca⟩ := p4 h0
    obtain ⟨gb, ob, rfl, hcb⟩ := q4 h0
    have RA0 : Hid (∀ (k : Nat) (l : List UInt8), L[k]? = some l → ∀ W, Below w.heap.size w W → W.rangeAt ga (oa + k * 32) (cellsB l)) := fun k l hk W hW j u hj => (hW.cell (World.block_lt_of_cell? w _ (hca k l hk j u hj))).trans (hca k l hk j u hj)
    have RB0 : Hid (∀ (k : Nat) (l : List UInt8), L[k]? = some l → ∀ W, Below w.heap.size w W → W.rangeAt gb (ob + k * 32) (cellsB l)) := fun k l hk W hW j u hj => (hW.cell (World.block_lt_of_cell? w _ (hcb k l hk j u hj))).trans (hcb k l hk j u hj)
    clear p4 q4 hca hcb h0
    go_enter Try.func25, Try.ntmps25
    go_wp2_with fail
    go_loopw [5] (fun v wr => ∃ k : Nat, k ≤ n ∧ v = .int .i64 (k : Int) ∧ Below w.heap.size w wr) (fun v _ => n - (intOf v).toNat)
    case atStart => exact ⟨0, by omega, rfl, Below.refl _ _⟩
    case round =>
      obtain ⟨k, hk, rfl, hE⟩ := hrel
      have E := Lib.hid hE
      clear hE
      by_cases hlt : k < n
      · have hlt2 : (k : Int) < (n : Int) := by omega
        have hw1 : IntKind.i64.wrap ((k : Int) + 1) = (k : Int) + 1 := IntWalk.i64_in _ (by omega)
        have hq0 : ¬ ((k : Int) < 0) := by omega
        obtain ⟨l, hl⟩ : ∃ l, L[k]? = some l := ⟨_, List.getElem?_eq_getElem (by rw [← HLN.out]; exact hlt)⟩
        have LL : Hid (l.length = 32) := HL.out l (List.mem_of_getElem? hl)
        have RA := Lib.hid (RA0.out k l hl)
        have RB := Lib.hid (RB0.out k l hl)
        have heq := fun W => Try.eqKeyIn l l LL.out LL.out W
        rw [beq_self_eq_true] at heq
        have HEQ := Lib.hid heq
        clear hl RA0 RB0 HL heq
        go_wp2_with fail
        refine region_class (fun W => Below w.heap.size w W) E.out.drew (by kernel_rfl) (by kernel_rfl) ?_
        clear E
        refine q_run (by rfl) (v := .slice (some ⟨ga, oa, none⟩) n ca) (fun W hW => by first | rfl | (clear hW; go_simp)) ?_
        try simp only [Act.put, List.setIfInBounds_toArray, List.set_cons_zero, List.set_cons_succ]
        refine q_run (by rfl) (v := .int .i64 (k : Int)) (fun W hW => by first | rfl | (clear hW; go_simp)) ?_
        try simp only [Act.put, List.setIfInBounds_toArray, List.set_cons_zero, List.set_cons_succ]
        refine q_run (by rfl) (v := .pointer (some ⟨ga, oa + k * 32, none⟩)) (fun W hW => by first | rfl | (clear hW; go_simp)) ?_
        try simp only [Act.put, List.setIfInBounds_toArray, List.set_cons_zero, List.set_cons_succ]
        refine q_run (by rfl) (v := .agg (keyC l)) (fun W hW => run_keyL 52 (.tmp 19) rfl ga (oa + k * 32) rfl l _ (RA.out W hW) Try.underlying52 rfl (Try.sizeKeyM l LL.out)) ?_
        try simp only [Act.put, List.setIfInBounds_toArray, List.set_cons_zero, List.set_cons_succ]
        refine q_run (by rfl) (v := .slice (some ⟨gb, ob, none⟩) n cb) (fun W hW => by first | rfl | (clear hW; go_simp)) ?_
        try simp only [Act.put, List.setIfInBounds_toArray, List.set_cons_zero, List.set_cons_succ]
        refine q_run (by rfl) (v := .int .i64 (k : Int)) (fun W hW => by first | rfl | (clear hW; go_simp)) ?_
        try simp only [Act.put, List.setIfInBounds_toArray, List.set_cons_zero, List.set_cons_succ]
        refine q_run (by rfl) (v := .pointer (some ⟨gb, ob + k * 32, none⟩)) (fun W hW => by first | rfl | (clear hW; go_simp)) ?_
        try simp only [Act.put, List.setIfInBounds_toArray, List.set_cons_zero, List.set_cons_succ]
        refine q_run (by rfl) (v := .agg (keyC l)) (fun W hW => run_keyL 52 (.tmp 23) rfl gb (ob + k * 32) rfl l _ (RB.out W hW) Try.underlying52 rfl (Try.sizeKeyM l LL.out)) ?_
        try simp only [Act.put, List.setIfInBounds_toArray, List.set_cons_zero, List.set_cons_succ]
        refine q_run (by rfl) (v := .bool false) (fun W hW => by have he := HEQ.out; have hgd := Try.eqGuardKey; clear hW; go_simp) ?_
        try simp only [Act.put, List.setIfInBounds_toArray, List.set_cons_zero, List.set_cons_succ]
        refine wpQuiet_nil ?_
        intro w7 hw7
        have E7 := Lib.hid hw7
        clear hw7
        go_wp2_with fail
        refine ⟨⟨k + 1, by omega, by congr 1, E7.out⟩, ?_⟩
        show n - ((k : Int) + 1).toNat < n - (k : Int).toNat
        omega
      · have hk2 : k = n := by omega
        clear hlt
        subst hk2
        go_wp2_with fail
        go_ret
        exact ⟨rfl, E.out⟩
  · obtain rfl : n = 0 := by omega
    clear p4 q4 h0
    go_enter Try.func25, Try.ntmps25
    go_wp2_with fail
    go_loopw [5] (fun v wr => v = .int .i64 0 ∧ Below w.heap.size w wr) (fun v _ => 0)
    case atStart => exact ⟨rfl, Below.refl _ _⟩
    case round =>
      obtain ⟨rfl, hE⟩ := hrel
      have E := Lib.hid hE
      clear hE
      go_wp2_with fail
      go_ret
      exact ⟨rfl, E.out⟩

theorem wpList_oneKey {w : World} {ops : Array Oper} {rest : List Oper} {o : Oper} {a : Act} {Q : Exit → Act → World → Prop} (hgd : o.guard = none) (x : Operand) (ho : o.op = .buildSlice 55 1 #[(0, x)]) (l : List UInt8) (hl : l.length = 32) (hx : a.eval x = .agg (keyC l))
    (h : ∀ g w', RowAt w' g 52 (keyC l) → Below w.heap.size w w' → wpList Try.prog ops Q rest (a.put o.dst (.slice (some ⟨g, 0, none⟩) 1 1)) w') : wpList Try.prog ops Q (o :: rest) a w :=
  wpList_plain hgd fun _ hK => wp_oneKey x ho l hl hx (hK _ _ (h w.heap.size _ (RowAt.new w _ _) (alloc_below w _)))
theorem wpList_appKeyO {w0 w : World} {ops : Array Oper} {rest : List Oper} {o : Oper} {a : Act} {Q : Exit → Act → World → Prop} (hgd : o.guard = none) (s x : Operand)
    (ho : o.op = .call { callee := .builtin .append, args := #[s, x], argTypes := #[55, 55] })
    (v : Value) (ls : List (List UInt8)) (l : List UInt8) (n b : Nat) (hs : a.eval s = v) (hx : a.eval x = .slice (some ⟨b, 0, none⟩) 1 1) (hrow : RowAt w b 52 (keyC l)) (hl : l.length = 32) (hls : n = ls.length) (hlen : ls.length ≤ 1000)
    (hown : w.ownsRow w0.heap.size 52 32 v n (cellsB ls.flatten)) (hb : Below w0.heap.size w0 w)
    (h : ∀ v' w', w'.ownsRow w0.heap.size 52 32 v' (n + 1) (cellsB (ls ++ [l]).flatten) → Below w0.heap.size w0 w' → wpList Try.prog ops Q rest (a.put o.dst v') w') : wpList Try.prog ops Q (o :: rest) a w := by
  subst hls
  refine wpList_plain hgd fun _ hK => ?_
  obtain ⟨i0, hi0, hz0, hz1, hz2⟩ := info_parts Try.infoKey
  refine wp_append_own w s x 55 ho w0.heap.size 52 i0 (.agg (keyC zeroKey)) 32 32 Try.underlying55 hi0 hz0 hz1 hz2 rfl (by decide) v ls.length (cellsB ls.flatten) hs hown ⟨b, 0, none⟩ 1 1 (cellsB l) hx (by rw [cellsB_length, hl]) (fun j y hj => ?_) (cellsB_one l) (by unfold maxLen; omega) (by omega) hb.size fun v2 W2 ho2 hg2 _ => ?_
  · have hadd : (⟨b, 0, none⟩ : Addr).add j = ⟨b, j, none⟩ := by unfold Addr.add; split <;> simp_all
    rw [hadd, hrow.cell j]
    simpa [keyC] using hj
  · refine hK _ _ (h v2 W2 ?_ (hb.grown hg2 hb.size fun k e => (World.ownsRow.lt hown k e).1))
    rw [List.flatten_append, List.flatten_singleton, cellsB_append]
    exact ho2
end Go.Proofs.Ytjhhpakaemnemaa
end
section
namespace Go.Proofs.Ytjhhpakaemnemaa
open Go.RowKit
set_option linter.unusedVariables false
set_option maxRecDepth 20000

theorem walkS_onlyH {P : Program} {md : Region.Mode} {ops : Array Oper} {Q : Exit → Act → World → Prop} {S : World → Prop} {fin : Nat → Bool} {i : Nat} {o : Oper} {m : Nat} {listed : Array Bool} {a : Act} {w : World} (hr : Region.ready md ops listed = [i]) (ho : ops[i]? = some o) (hw : Region.wanted o (yielded ops a.tmps) = true)
    (h : ∀ K : Act → World → Prop, (∀ a' w', (fin i = true ∨ S w') → walkS P md ops Q S fin m (listed.setIfInBounds i true) a' w' → K a' w') → o.wp P a w K Q) : walkS P md ops Q S fin (m + 1) listed a w := by
  refine ⟨fun h0 => by simp [hr] at h0, fun j hj => ?_⟩
  rw [hr] at hj
  obtain rfl : j = i := by simpa using hj
  unfold wpOp
  rw [ho]
  simp only [hw, if_true]
  exact .inl (h _ (fun a' w' h1 h2 => ⟨h1, h2⟩))
set_option maxHeartbeats 8000000 in
theorem refAlike_same (w : World) (va vb : Value) (its : List It) (ha : Its w va its) (hb : Its w vb its) (hn : its.length ≤ 1000) (hk : ∀ x ∈ its, x.l.length ≤ 1000) :
    Calls Try.prog 17 #[va, vb] w fun e w' => e = .returned (.bool true) ∧ Below w.heap.size w w' := by
  obtain ⟨bv, lv, ⟨A, c, rfl, p1, p2, p3⟩, hI⟩ := ha
  obtain ⟨bv2, lv2, ⟨B, c2, rfl, r1, r2, r3⟩, hJ⟩ := hb
  have HI := Lib.hid hI
  have HJ := Lib.hid hJ
  have HKL := Lib.hid hk
  unfold maxLen at p2 r2
  obtain ⟨n, hnn⟩ : ∃ n, n = its.length := ⟨_, rfl⟩
  have HN := Lib.hid hnn
  have P3 := Lib.hid p3
  have R3 := Lib.hid r3
  rw [← hnn] at p1 r1 hn ⊢
  clear hI hJ hk p3 r3 hnn
  go_enter Try.func17, Try.ntmps17
  go_wp2_with fail
  go_loopw [5] (fun v wr => ∃ k : Nat, k ≤ n ∧ v = .int .i64 (k : Int) ∧ Below w.heap.size w wr) (fun v _ => n - (intOf v).toNat)
  case atStart => exact ⟨0, by omega, rfl, Below.refl _ _⟩
  case round =>
    obtain ⟨j, hj, rfl, hE⟩ := hrel
    have HB := Lib.hid hE
    clear hE
    by_cases hlt : j < n
    · have hlt2 : (j : Int) < (n : Int) := by omega
      have hw1 : IntKind.i64.wrap ((j : Int) + 1) = (j : Int) + 1 := IntWalk.i64_in _ (by omega)
      have hq0 : ¬ ((j : Int) < 0) := by omega
      obtain ⟨x, hx⟩ : ∃ x, its[j]? = some x := ⟨_, List.getElem?_eq_getElem (by rw [← HN.out]; exact hlt)⟩
      obtain ⟨hb0, hk0, _⟩ := HI.out j x hx
      obtain ⟨hb1, hk1, _⟩ := HJ.out j x hx
      have HXL := Lib.hid (HKL.out x (List.mem_of_getElem? hx))
      obtain ⟨b0, off, rfl, hc⟩ := Its.cells (v := .slice A its.length c) (c := c) P3.out j x hx
      obtain ⟨b1, of1, rfl, hc1⟩ := Its.cells (v := .slice B its.length c2) (c := c2) R3.out j x hx
      have HC := Lib.hid hc
      have HC1 := Lib.hid hc1
      obtain ⟨BV, hBV⟩ : ∃ BV, BV = bv j := ⟨_, rfl⟩
      obtain ⟨LV, hLV⟩ : ∃ LV, LV = lv j := ⟨_, rfl⟩
      obtain ⟨BV2, hBV2⟩ : ∃ BV, BV = bv2 j := ⟨_, rfl⟩
      obtain ⟨LV2, hLV2⟩ : ∃ LV, LV = lv2 j := ⟨_, rfl⟩
      rw [← hBV, ← hLV] at HC
      rw [← hBV2, ← hLV2] at HC1
      have HBB : Hid (Bs w BV x.b) := hBV ▸ hb0
      have HLL : Hid (Kl w LV x.l) := hLV ▸ hk0
      have HBB2 : Hid (Bs w BV2 x.b) := hBV2 ▸ hb1
      have HLL2 : Hid (Kl w LV2 x.l) := hLV2 ▸ hk1
      clear hc hc1 P3 R3 hx hb0 hk0 hb1 hk1 hBV hLV hBV2 hLV2 HI HJ HN HKL
      obtain ⟨BA, bc, rfl, _, _, _⟩ := HBB.out
      obtain ⟨LA, lc, rfl, _, _, _, _⟩ := HLL.out
      obtain ⟨BA2, bc2, rfl, _, _, _⟩ := HBB2.out
      obtain ⟨LA2, lc2, rfl, _, _, _, _⟩ := HLL2.out
      go_wp2_with fail
      refine plain_region (S := fun W => Below w.heap.size w W) (fin := fun _ => false) (by kernel_rfl) ?_
      have hS : Below w.heap.size w wr.drew := HB.out.drew
      change walkS _ _ _ _ _ _ 52 _ _ _
      refine walkS_take (i := 0) (oi := ⟨some 17, _, _, _, _, _⟩) (v := .slice (some ⟨b0, off, none⟩) n c) rfl (by kernel_rfl) (by kernel_rfl) (fun _ _ _ h => h) _ _ _ _ (by kernel_rfl) (by kernel_rfl) (Or.inl ⟨by rfl, fun w' hS' => (by clear hS hS'; go_simp)⟩) hS ?_
      try simp only [Act.put, List.setIfInBounds_toArray, List.set_cons_zero, List.set_cons_succ]
      refine walkS_take (i := 1) (oi := ⟨some 18, _, _, _, _, _⟩) (v := .int .i64 (j : Int)) rfl (by kernel_rfl) (by kernel_rfl) (fun _ _ _ h => h) _ _ _ _ (by kernel_rfl) (by kernel_rfl) (Or.inl ⟨by rfl, fun w' hS' => (by clear hS hS'; go_simp)⟩) hS ?_
      try simp only [Act.put, List.setIfInBounds_toArray, List.set_cons_zero, List.set_cons_succ]
      refine walkS_take (i := 2) (oi := ⟨some 19, _, _, _, _, _⟩) (v := .pointer (some ⟨b0, off + j * 4, none⟩)) rfl (by kernel_rfl) (by kernel_rfl) (fun _ _ _ h => h) _ _ _ _ (by kernel_rfl) (by kernel_rfl) (Or.inl ⟨by rfl, fun w' hS' => (by clear hS hS'; go_simp)⟩) hS ?_
      try simp only [Act.put, List.setIfInBounds_toArray, List.set_cons_zero, List.set_cons_succ]
      refine walkS_take (i := 3) (oi := ⟨some 20, _, _, _, _, _⟩) (v := .pointer (some ⟨b0, off + j * 4, none⟩)) rfl (by kernel_rfl) (by kernel_rfl) (fun _ _ _ h => h) _ _ _ _ (by kernel_rfl) (by kernel_rfl) (Or.inl ⟨by rfl, fun w' hS' => (by clear hS hS'; go_simp)⟩) hS ?_
      try simp only [Act.put, List.setIfInBounds_toArray, List.set_cons_zero, List.set_cons_succ]
      refine walkS_take (i := 4) (oi := ⟨some 21, _, _, _, _, _⟩) (v := .int .i64 x.k) rfl (by kernel_rfl) (by kernel_rfl) (fun _ _ _ h => h) _ _ _ _ (by kernel_rfl) (by kernel_rfl) (Or.inl ⟨by rfl, fun w' hS' => (by have c0 := HC.out w' hS' 0 _ rfl; rw [Nat.add_zero] at c0; clear hS hS'; go_simp)⟩) hS ?_
      try simp only [Act.put, List.setIfInBounds_toArray, List.set_cons_zero, List.set_cons_succ]
      refine walkS_take (i := 5) (oi := ⟨some 22, _, _, _, _, _⟩) (v := .slice (some ⟨b1, of1, none⟩) n c2) rfl (by kernel_rfl) (by kernel_rfl) (fun _ _ _ h => h) _ _ _ _ (by kernel_rfl) (by kernel_rfl) (Or.inl ⟨by rfl, fun w' hS' => (by clear hS hS'; go_simp)⟩) hS ?_
      try simp only [Act.put, List.setIfInBounds_toArray, List.set_cons_zero, List.set_cons_succ]
      refine walkS_take (i := 6) (oi := ⟨some 23, _, _, _, _, _⟩) (v := .int .i64 (j : Int)) rfl (by kernel_rfl) (by kernel_rfl) (fun _ _ _ h => h) _ _ _ _ (by kernel_rfl) (by kernel_rfl) (Or.inl ⟨by rfl, fun w' hS' => (by clear hS hS'; go_simp)⟩) hS ?_
      try simp only [Act.put, List.setIfInBounds_toArray, List.set_cons_zero, List.set_cons_succ]
      refine walkS_take (i := 7) (oi := ⟨some 24, _, _, _, _, _⟩) (v := .pointer (some ⟨b1, of1 + j * 4, none⟩)) rfl (by kernel_rfl) (by kernel_rfl) (fun _ _ _ h => h) _ _ _ _ (by kernel_rfl) (by kernel_rfl) (Or.inl ⟨by rfl, fun w' hS' => (by clear hS hS'; go_simp)⟩) hS ?_
      try simp only [Act.put, List.setIfInBounds_toArray, List.set_cons_zero, List.set_cons_succ]
      refine walkS_take (i := 8) (oi := ⟨some 25, _, _, _, _, _⟩) (v := .pointer (some ⟨b1, of1 + j * 4, none⟩)) rfl (by kernel_rfl) (by kernel_rfl) (fun _ _ _ h => h) _ _ _ _ (by kernel_rfl) (by kernel_rfl) (Or.inl ⟨by rfl, fun w' hS' => (by clear hS hS'; go_simp)⟩) hS ?_
      try simp only [Act.put, List.setIfInBounds_toArray, List.set_cons_zero, List.set_cons_succ]
      refine walkS_take (i := 9) (oi := ⟨some 26, _, _, _, _, _⟩) (v := .int .i64 x.k) rfl (by kernel_rfl) (by kernel_rfl) (fun _ _ _ h => h) _ _ _ _ (by kernel_rfl) (by kernel_rfl) (Or.inl ⟨by rfl, fun w' hS' => (by have c0 := HC1.out w' hS' 0 _ rfl; rw [Nat.add_zero] at c0; clear hS hS'; go_simp)⟩) hS ?_
      try simp only [Act.put, List.setIfInBounds_toArray, List.set_cons_zero, List.set_cons_succ]
      refine walkS_take (i := 10) (oi := ⟨some 27, _, _, _, _, _⟩) (v := .bool false) rfl (by kernel_rfl) (by kernel_rfl) (fun _ _ _ h => h) _ _ _ _ (by kernel_rfl) (by kernel_rfl) (Or.inl ⟨by rfl, fun w' hS' => (by clear hS hS'; go_simp)⟩) hS ?_
      try simp only [Act.put, List.setIfInBounds_toArray, List.set_cons_zero, List.set_cons_succ]
      refine walkS_take (i := 11) (oi := ⟨some 28, _, _, _, _, _⟩) (v := .bool false) rfl (by kernel_rfl) (by kernel_rfl) (fun _ _ _ h => h) _ _ _ _ (by kernel_rfl) (by kernel_rfl) (Or.inl ⟨by rfl, fun w' hS' => (by clear hS hS'; go_simp)⟩) hS ?_
      try simp only [Act.put, List.setIfInBounds_toArray, List.set_cons_zero, List.set_cons_succ]
      refine walkS_take (i := 12) (oi := ⟨some 29, _, _, _, _, _⟩) (v := .slice (some ⟨b0, off, none⟩) n c) rfl (by kernel_rfl) (by kernel_rfl) (fun _ _ _ h => h) _ _ _ _ (by kernel_rfl) (by kernel_rfl) (Or.inl ⟨by rfl, fun w' hS' => (by clear hS hS'; go_simp)⟩) hS ?_
      try simp only [Act.put, List.setIfInBounds_toArray, List.set_cons_zero, List.set_cons_succ]
      refine walkS_take (i := 13) (oi := ⟨some 30, _, _, _, _, _⟩) (v := .int .i64 (j : Int)) rfl (by kernel_rfl) (by kernel_rfl) (fun _ _ _ h => h) _ _ _ _ (by kernel_rfl) (by kernel_rfl) (Or.inl ⟨by rfl, fun w' hS' => (by clear hS hS'; go_simp)⟩) hS ?_
      try simp only [Act.put, List.setIfInBounds_toArray, List.set_cons_zero, List.set_cons_succ]
      refine walkS_take (i := 14) (oi := ⟨some 31, _, _, _, _, _⟩) (v := .pointer (some ⟨b0, off + j * 4, none⟩)) rfl (by kernel_rfl) (by kernel_rfl) (fun _ _ _ h => h) _ _ _ _ (by kernel_rfl) (by kernel_rfl) (Or.inl ⟨by rfl, fun w' hS' => (by clear hS hS'; go_simp)⟩) hS ?_
      try simp only [Act.put, List.setIfInBounds_toArray, List.set_cons_zero, List.set_cons_succ]
      refine walkS_take (i := 15) (oi := ⟨some 32, _, _, _, _, _⟩) (v := .pointer (some ⟨b0, off + j * 4 + 1, none⟩)) rfl (by kernel_rfl) (by kernel_rfl) (fun _ _ _ h => h) _ _ _ _ (by kernel_rfl) (by kernel_rfl) (Or.inl ⟨by rfl, fun w' hS' => (by clear hS hS'; go_simp)⟩) hS ?_
      try simp only [Act.put, List.setIfInBounds_toArray, List.set_cons_zero, List.set_cons_succ]
      refine walkS_take (i := 16) (oi := ⟨some 33, _, _, _, _, _⟩) (v := .int .u64 (x.n : Int)) rfl (by kernel_rfl) (by kernel_rfl) (fun _ _ _ h => h) _ _ _ _ (by kernel_rfl) (by kernel_rfl) (Or.inl ⟨by rfl, fun w' hS' => (by have c0 := HC.out w' hS' 1 _ rfl; clear hS hS'; go_simp)⟩) hS ?_
      try simp only [Act.put, List.setIfInBounds_toArray, List.set_cons_zero, List.set_cons_succ]
      refine walkS_take (i := 17) (oi := ⟨some 34, _, _, _, _, _⟩) (v := .slice (some ⟨b1, of1, none⟩) n c2) rfl (by kernel_rfl) (by kernel_rfl) (fun _ _ _ h => h) _ _ _ _ (by kernel_rfl) (by kernel_rfl) (Or.inl ⟨by rfl, fun w' hS' => (by clear hS hS'; go_simp)⟩) hS ?_
      try simp only [Act.put, List.setIfInBounds_toArray, List.set_cons_zero, List.set_cons_succ]
      refine walkS_take (i := 18) (oi := ⟨some 35, _, _, _, _, _⟩) (v := .int .i64 (j : Int)) rfl (by kernel_rfl) (by kernel_rfl) (fun _ _ _ h => h) _ _ _ _ (by kernel_rfl) (by kernel_rfl) (Or.inl ⟨by rfl, fun w' hS' => (by clear hS hS'; go_simp)⟩) hS ?_
      try simp only [Act.put, List.setIfInBounds_toArray, List.set_cons_zero, List.set_cons_succ]
      refine walkS_take (i := 19) (oi := ⟨some 36, _, _, _, _, _⟩) (v := .pointer (some ⟨b1, of1 + j * 4, none⟩)) rfl (by kernel_rfl) (by kernel_rfl) (fun _ _ _ h => h) _ _ _ _ (by kernel_rfl) (by kernel_rfl) (Or.inl ⟨by rfl, fun w' hS' => (by clear hS hS'; go_simp)⟩) hS ?_
      try simp only [Act.put, List.setIfInBounds_toArray, List.set_cons_zero, List.set_cons_succ]
      refine walkS_take (i := 20) (oi := ⟨some 37, _, _, _, _, _⟩) (v := .pointer (some ⟨b1, of1 + j * 4 + 1, none⟩)) rfl (by kernel_rfl) (by kernel_rfl) (fun _ _ _ h => h) _ _ _ _ (by kernel_rfl) (by kernel_rfl) (Or.inl ⟨by rfl, fun w' hS' => (by clear hS hS'; go_simp)⟩) hS ?_
      try simp only [Act.put, List.setIfInBounds_toArray, List.set_cons_zero, List.set_cons_succ]
      refine walkS_take (i := 21) (oi := ⟨some 38, _, _, _, _, _⟩) (v := .int .u64 (x.n : Int)) rfl (by kernel_rfl) (by kernel_rfl) (fun _ _ _ h => h) _ _ _ _ (by kernel_rfl) (by kernel_rfl) (Or.inl ⟨by rfl, fun w' hS' => (by have c0 := HC1.out w' hS' 1 _ rfl; clear hS hS'; go_simp)⟩) hS ?_
      try simp only [Act.put, List.setIfInBounds_toArray, List.set_cons_zero, List.set_cons_succ]
      refine walkS_take (i := 22) (oi := ⟨some 39, _, _, _, _, _⟩) (v := .bool false) rfl (by kernel_rfl) (by kernel_rfl) (fun _ _ _ h => h) _ _ _ _ (by kernel_rfl) (by kernel_rfl) (Or.inl ⟨by rfl, fun w' hS' => (by clear hS hS'; go_simp)⟩) hS ?_
      try simp only [Act.put, List.setIfInBounds_toArray, List.set_cons_zero, List.set_cons_succ]
      refine walkS_take (i := 23) (oi := ⟨some 40, _, _, _, _, _⟩) (v := .bool false) rfl (by kernel_rfl) (by kernel_rfl) (fun _ _ _ h => h) _ _ _ _ (by kernel_rfl) (by kernel_rfl) (Or.inl ⟨by rfl, fun w' hS' => (by clear hS hS'; go_simp)⟩) hS ?_
      try simp only [Act.put, List.setIfInBounds_toArray, List.set_cons_zero, List.set_cons_succ]
      refine walkS_take (i := 24) (oi := ⟨some 41, _, _, _, _, _⟩) (v := .bool false) rfl (by kernel_rfl) (by kernel_rfl) (fun _ _ _ h => h) _ _ _ _ (by kernel_rfl) (by kernel_rfl) (Or.inl ⟨by rfl, fun w' hS' => (by clear hS hS'; go_simp)⟩) hS ?_
      try simp only [Act.put, List.setIfInBounds_toArray, List.set_cons_zero, List.set_cons_succ]
      refine walkS_take (i := 25) (oi := ⟨some 42, _, _, _, _, _⟩) (v := .slice (some ⟨b0, off, none⟩) n c) rfl (by kernel_rfl) (by kernel_rfl) (fun _ _ _ h => h) _ _ _ _ (by kernel_rfl) (by kernel_rfl) (Or.inl ⟨by rfl, fun w' hS' => (by clear hS hS'; go_simp)⟩) hS ?_
      try simp only [Act.put, List.setIfInBounds_toArray, List.set_cons_zero, List.set_cons_succ]
      refine walkS_take (i := 26) (oi := ⟨some 43, _, _, _, _, _⟩) (v := .int .i64 (j : Int)) rfl (by kernel_rfl) (by kernel_rfl) (fun _ _ _ h => h) _ _ _ _ (by kernel_rfl) (by kernel_rfl) (Or.inl ⟨by rfl, fun w' hS' => (by clear hS hS'; go_simp)⟩) hS ?_
      try simp only [Act.put, List.setIfInBounds_toArray, List.set_cons_zero, List.set_cons_succ]
      refine walkS_take (i := 27) (oi := ⟨some 44, _, _, _, _, _⟩) (v := .pointer (some ⟨b0, off + j * 4, none⟩)) rfl (by kernel_rfl) (by kernel_rfl) (fun _ _ _ h => h) _ _ _ _ (by kernel_rfl) (by kernel_rfl) (Or.inl ⟨by rfl, fun w' hS' => (by clear hS hS'; go_simp)⟩) hS ?_
      try simp only [Act.put, List.setIfInBounds_toArray, List.set_cons_zero, List.set_cons_succ]
      refine walkS_take (i := 28) (oi := ⟨some 45, _, _, _, _, _⟩) (v := .pointer (some ⟨b0, off + j * 4 + 2, none⟩)) rfl (by kernel_rfl) (by kernel_rfl) (fun _ _ _ h => h) _ _ _ _ (by kernel_rfl) (by kernel_rfl) (Or.inl ⟨by rfl, fun w' hS' => (by clear hS hS'; go_simp)⟩) hS ?_
      try simp only [Act.put, List.setIfInBounds_toArray, List.set_cons_zero, List.set_cons_succ]
      refine walkS_take (i := 29) (oi := ⟨some 46, _, _, _, _, _⟩) (v := .slice BA x.b.length bc) rfl (by kernel_rfl) (by kernel_rfl) (fun _ _ _ h => h) _ _ _ _ (by kernel_rfl) (by kernel_rfl) (Or.inl ⟨by rfl, fun w' hS' => (by have c0 := HC.out w' hS' 2 _ rfl; clear hS hS'; go_simp)⟩) hS ?_
      try simp only [Act.put, List.setIfInBounds_toArray, List.set_cons_zero, List.set_cons_succ]
      refine walkS_take (i := 30) (oi := ⟨some 47, _, _, _, _, _⟩) (v := .slice (some ⟨b1, of1, none⟩) n c2) rfl (by kernel_rfl) (by kernel_rfl) (fun _ _ _ h => h) _ _ _ _ (by kernel_rfl) (by kernel_rfl) (Or.inl ⟨by rfl, fun w' hS' => (by clear hS hS'; go_simp)⟩) hS ?_
      try simp only [Act.put, List.setIfInBounds_toArray, List.set_cons_zero, List.set_cons_succ]
      refine walkS_take (i := 31) (oi := ⟨some 48, _, _, _, _, _⟩) (v := .int .i64 (j : Int)) rfl (by kernel_rfl) (by kernel_rfl) (fun _ _ _ h => h) _ _ _ _ (by kernel_rfl) (by kernel_rfl) (Or.inl ⟨by rfl, fun w' hS' => (by clear hS hS'; go_simp)⟩) hS ?_
      try simp only [Act.put, List.setIfInBounds_toArray, List.set_cons_zero, List.set_cons_succ]
      refine walkS_take (i := 32) (oi := ⟨some 49, _, _, _, _, _⟩) (v := .pointer (some ⟨b1, of1 + j * 4, none⟩)) rfl (by kernel_rfl) (by kernel_rfl) (fun _ _ _ h => h) _ _ _ _ (by kernel_rfl) (by kernel_rfl) (Or.inl ⟨by rfl, fun w' hS' => (by clear hS hS'; go_simp)⟩) hS ?_
      try simp only [Act.put, List.setIfInBounds_toArray, List.set_cons_zero, List.set_cons_succ]
      refine walkS_take (i := 33) (oi := ⟨some 50, _, _, _, _, _⟩) (v := .pointer (some ⟨b1, of1 + j * 4 + 2, none⟩)) rfl (by kernel_rfl) (by kernel_rfl) (fun _ _ _ h => h) _ _ _ _ (by kernel_rfl) (by kernel_rfl) (Or.inl ⟨by rfl, fun w' hS' => (by clear hS hS'; go_simp)⟩) hS ?_
      try simp only [Act.put, List.setIfInBounds_toArray, List.set_cons_zero, List.set_cons_succ]
      refine walkS_take (i := 34) (oi := ⟨some 51, _, _, _, _, _⟩) (v := .slice BA2 x.b.length bc2) rfl (by kernel_rfl) (by kernel_rfl) (fun _ _ _ h => h) _ _ _ _ (by kernel_rfl) (by kernel_rfl) (Or.inl ⟨by rfl, fun w' hS' => (by have c0 := HC1.out w' hS' 2 _ rfl; clear hS hS'; go_simp)⟩) hS ?_
      try simp only [Act.put, List.setIfInBounds_toArray, List.set_cons_zero, List.set_cons_succ]
      refine walkS_onlyH (i := 35) (o := ⟨some 52, _, _, _, _, _⟩) (by kernel_rfl) rfl (by rfl) fun KK hKK => ?_
      go_simp
      refine (same_yes _ _ _ x.b (HBB.out.below hS) (HBB2.out.below hS)).mono ?_
      intro e w4 hh
      obtain ⟨he, b4⟩ := hh
      subst he
      have hS2 : Below w.heap.size w w4 := below_size hS b4
      clear hS b4
      have hS := hS2
      clear hS2
      refine hKK _ _ (.inr hS) ?_
      clear hKK KK
      try simp only [Act.put, List.setIfInBounds_toArray, List.set_cons_zero, List.set_cons_succ]
      refine walkS_take (i := 36) (oi := ⟨some 53, _, _, _, _, _⟩) (v := .bool false) rfl (by kernel_rfl) (by kernel_rfl) (fun _ _ _ h => h) _ _ _ _ (by kernel_rfl) (by kernel_rfl) (Or.inl ⟨by rfl, fun w' hS' => (by clear hS hS'; go_simp)⟩) hS ?_
      try simp only [Act.put, List.setIfInBounds_toArray, List.set_cons_zero, List.set_cons_succ]
      refine walkS_take (i := 37) (oi := ⟨some 54, _, _, _, _, _⟩) (v := .bool false) rfl (by kernel_rfl) (by kernel_rfl) (fun _ _ _ h => h) _ _ _ _ (by kernel_rfl) (by kernel_rfl) (Or.inl ⟨by rfl, fun w' hS' => (by clear hS hS'; go_simp)⟩) hS ?_
      try simp only [Act.put, List.setIfInBounds_toArray, List.set_cons_zero, List.set_cons_succ]
      refine walkS_take (i := 38) (oi := ⟨some 55, _, _, _, _, _⟩) (v := .bool false) rfl (by kernel_rfl) (by kernel_rfl) (fun _ _ _ h => h) _ _ _ _ (by kernel_rfl) (by kernel_rfl) (Or.inl ⟨by rfl, fun w' hS' => (by clear hS hS'; go_simp)⟩) hS ?_
      try simp only [Act.put, List.setIfInBounds_toArray, List.set_cons_zero, List.set_cons_succ]
      refine walkS_take (i := 39) (oi := ⟨some 56, _, _, _, _, _⟩) (v := .slice (some ⟨b0, off, none⟩) n c) rfl (by kernel_rfl) (by kernel_rfl) (fun _ _ _ h => h) _ _ _ _ (by kernel_rfl) (by kernel_rfl) (Or.inl ⟨by rfl, fun w' hS' => (by clear hS hS'; go_simp)⟩) hS ?_
      try simp only [Act.put, List.setIfInBounds_toArray, List.set_cons_zero, List.set_cons_succ]
      refine walkS_take (i := 40) (oi := ⟨some 57, _, _, _, _, _⟩) (v := .int .i64 (j : Int)) rfl (by kernel_rfl) (by kernel_rfl) (fun _ _ _ h => h) _ _ _ _ (by kernel_rfl) (by kernel_rfl) (Or.inl ⟨by rfl, fun w' hS' => (by clear hS hS'; go_simp)⟩) hS ?_
      try simp only [Act.put, List.setIfInBounds_toArray, List.set_cons_zero, List.set_cons_succ]
      refine walkS_take (i := 41) (oi := ⟨some 58, _, _, _, _, _⟩) (v := .pointer (some ⟨b0, off + j * 4, none⟩)) rfl (by kernel_rfl) (by kernel_rfl) (fun _ _ _ h => h) _ _ _ _ (by kernel_rfl) (by kernel_rfl) (Or.inl ⟨by rfl, fun w' hS' => (by clear hS hS'; go_simp)⟩) hS ?_
      try simp only [Act.put, List.setIfInBounds_toArray, List.set_cons_zero, List.set_cons_succ]
      refine walkS_take (i := 42) (oi := ⟨some 59, _, _, _, _, _⟩) (v := .pointer (some ⟨b0, off + j * 4 + 3, none⟩)) rfl (by kernel_rfl) (by kernel_rfl) (fun _ _ _ h => h) _ _ _ _ (by kernel_rfl) (by kernel_rfl) (Or.inl ⟨by rfl, fun w' hS' => (by clear hS hS'; go_simp)⟩) hS ?_
      try simp only [Act.put, List.setIfInBounds_toArray, List.set_cons_zero, List.set_cons_succ]
      refine walkS_take (i := 43) (oi := ⟨some 60, _, _, _, _, _⟩) (v := .slice LA x.l.length lc) rfl (by kernel_rfl) (by kernel_rfl) (fun _ _ _ h => h) _ _ _ _ (by kernel_rfl) (by kernel_rfl) (Or.inl ⟨by rfl, fun w' hS' => (by have c0 := HC.out w' hS' 3 _ rfl; clear hS hS'; go_simp)⟩) hS ?_
      try simp only [Act.put, List.setIfInBounds_toArray, List.set_cons_zero, List.set_cons_succ]
      refine walkS_take (i := 44) (oi := ⟨some 61, _, _, _, _, _⟩) (v := .slice (some ⟨b1, of1, none⟩) n c2) rfl (by kernel_rfl) (by kernel_rfl) (fun _ _ _ h => h) _ _ _ _ (by kernel_rfl) (by kernel_rfl) (Or.inl ⟨by rfl, fun w' hS' => (by clear hS hS'; go_simp)⟩) hS ?_
      try simp only [Act.put, List.setIfInBounds_toArray, List.set_cons_zero, List.set_cons_succ]
      refine walkS_take (i := 45) (oi := ⟨some 62, _, _, _, _, _⟩) (v := .int .i64 (j : Int)) rfl (by kernel_rfl) (by kernel_rfl) (fun _ _ _ h => h) _ _ _ _ (by kernel_rfl) (by kernel_rfl) (Or.inl ⟨by rfl, fun w' hS' => (by clear hS hS'; go_simp)⟩) hS ?_
      try simp only [Act.put, List.setIfInBounds_toArray, List.set_cons_zero, List.set_cons_succ]
      refine walkS_take (i := 46) (oi := ⟨some 63, _, _, _, _, _⟩) (v := .pointer (some ⟨b1, of1 + j * 4, none⟩)) rfl (by kernel_rfl) (by kernel_rfl) (fun _ _ _ h => h) _ _ _ _ (by kernel_rfl) (by kernel_rfl) (Or.inl ⟨by rfl, fun w' hS' => (by clear hS hS'; go_simp)⟩) hS ?_
      try simp only [Act.put, List.setIfInBounds_toArray, List.set_cons_zero, List.set_cons_succ]
      refine walkS_take (i := 47) (oi := ⟨some 64, _, _, _, _, _⟩) (v := .pointer (some ⟨b1, of1 + j * 4 + 3, none⟩)) rfl (by kernel_rfl) (by kernel_rfl) (fun _ _ _ h => h) _ _ _ _ (by kernel_rfl) (by kernel_rfl) (Or.inl ⟨by rfl, fun w' hS' => (by clear hS hS'; go_simp)⟩) hS ?_
      try simp only [Act.put, List.setIfInBounds_toArray, List.set_cons_zero, List.set_cons_succ]
      refine walkS_take (i := 48) (oi := ⟨some 65, _, _, _, _, _⟩) (v := .slice LA2 x.l.length lc2) rfl (by kernel_rfl) (by kernel_rfl) (fun _ _ _ h => h) _ _ _ _ (by kernel_rfl) (by kernel_rfl) (Or.inl ⟨by rfl, fun w' hS' => (by have c0 := HC1.out w' hS' 3 _ rfl; clear hS hS'; go_simp)⟩) hS ?_
      try simp only [Act.put, List.setIfInBounds_toArray, List.set_cons_zero, List.set_cons_succ]
      refine walkS_onlyH (i := 49) (o := ⟨some 66, _, _, _, _, _⟩) (by kernel_rfl) rfl (by rfl) fun KK hKK => ?_
      go_simp
      refine (refKeys_same _ _ _ x.l (HLL.out.below hS) (HLL2.out.below hS) HXL.out).mono ?_
      intro e w5 hh
      obtain ⟨he, b5⟩ := hh
      subst he
      have hS2 : Below w.heap.size w w5 := below_size hS b5
      clear hS b5
      have hS := hS2
      clear hS2
      refine hKK _ _ (.inr hS) ?_
      clear hKK KK
      try simp only [Act.put, List.setIfInBounds_toArray, List.set_cons_zero, List.set_cons_succ]
      refine walkS_take (i := 50) (oi := ⟨some 67, _, _, _, _, _⟩) (v := .bool false) rfl (by kernel_rfl) (by kernel_rfl) (fun _ _ _ h => h) _ _ _ _ (by kernel_rfl) (by kernel_rfl) (Or.inl ⟨by rfl, fun w' hS' => (by clear hS hS'; go_simp)⟩) hS ?_
      try simp only [Act.put, List.setIfInBounds_toArray, List.set_cons_zero, List.set_cons_succ]
      refine walkS_take (i := 51) (oi := ⟨some 68, _, _, _, _, _⟩) (v := .bool false) rfl (by kernel_rfl) (by kernel_rfl) (fun _ _ _ h => h) _ _ _ _ (by kernel_rfl) (by kernel_rfl) (Or.inl ⟨by rfl, fun w' hS' => (by clear hS hS'; go_simp)⟩) hS ?_
      try simp only [Act.put, List.setIfInBounds_toArray, List.set_cons_zero, List.set_cons_succ]
      refine walkS_done (by kernel_rfl) ?_ _
      go_wp2_with fail
      refine ⟨⟨j + 1, by omega, by congr 1, hS⟩, ?_⟩
      show n - ((j : Int) + 1).toNat < n - (j : Int).toNat
      omega
    · have hk2 : j = n := by omega
      clear hlt
      subst hk2
      go_wp2_with fail
      go_ret
      exact ⟨rfl, HB.out⟩
end Go.Proofs.Ytjhhpakaemnemaa
end
