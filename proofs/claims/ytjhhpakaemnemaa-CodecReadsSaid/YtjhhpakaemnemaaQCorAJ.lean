/-
  Texts that belong together, merged: CodV, CodQ, CodT. Conditions: as each theorem names them.
-/
import Derived.Test.YtjhhpakaemnemaaQCorAI
import Derived.Test.YtjhhpakaemnemaaQCorAG
import Derived.Test.YtjhhpakaemnemaaQCorAE
import Derived.Test.YtjhhpakaemnemaaQCorAC
section
namespace Go.Proofs.Ytjhhpakaemnemaa
open Go.RowKit
set_option linter.unusedVariables false
set_option maxRecDepth 20000

/-- The document's In at r, over the bytes b that bv reads as. -/
def RiAt (w : World) (r : Nat) (bv : Value) (b : List UInt8) (s : St) : Prop :=
  Bs w bv b ∧ ∃ at_ : Nat, RowAt w r 45 #[bv, .int .i64 (at_ : Int), .int .i64 s.e] ∧ at_ ≤ b.length ∧ (s.e = 0 → s.l = b.drop at_)
theorem no_u8R {w : World} {v : Value} {l : List UInt8} (h : Bs w v l) (a e : Int) : ∀ (j : Nat) (x : Int), (#[v, .int .i64 a, .int .i64 e] : Array Value)[j]? ≠ some (Value.int .u8 x) := by
  obtain ⟨A, c, rfl, _⟩ := h
  intro j x hx
  match j, hx with
  | 0, hx => simp at hx
  | 1, hx => simp at hx
  | 2, hx => simp at hx
theorem RiAt.kept {w w' : World} {r : Nat} {bv : Value} {b : List UInt8} {s : St} (h : RiAt w r bv b s) (hb : Below w.heap.size w w') : RiAt w' r bv b s := by
  obtain ⟨h0, a, h1, h2, h3⟩ := h
  exact ⟨h0.below hb, a, h1.kept hb, h2, h3⟩
theorem RiAt.lt {w : World} {r : Nat} {bv : Value} {b : List UInt8} {s : St} (h : RiAt w r bv b s) : r < w.heap.size := by obtain ⟨_, a, h1, _⟩ := h; exact h1.lt
theorem RiAt.bs {w w' : World} {r : Nat} {bv u : Value} {b l : List UInt8} {s : St} (h : RiAt w r bv b s) (hb : Bs w u l) (hg : w.grownBy w' (some r)) : Bs w' u l := by
  obtain ⟨h0, a, h1, _⟩ := h
  exact hb.turn h1 (no_u8R h0 _ _) hg
theorem RiAt.kl {w w' : World} {r : Nat} {bv u : Value} {b : List UInt8} {l : List (List UInt8)} {s : St} (h : RiAt w r bv b s) (hb : Kl w u l) (hg : w.grownBy w' (some r)) : Kl w' u l := by
  obtain ⟨h0, a, h1, _⟩ := h
  exact hb.turn h1 (no_u8R h0 _ _) hg
theorem RowAt.put3b {w : World} {i : Nat} {t : TypeId} {x y z : Value} (h : RowAt w i t #[x, y, z]) (a : Value) : RowAt (w.setCell ⟨i, 1, none⟩ a) i t #[x, a, z] := h.put 1 a
theorem RowAt.put3c {w : World} {i : Nat} {t : TypeId} {x y z : Value} (h : RowAt w i t #[x, y, z]) (a : Value) : RowAt (w.setCell ⟨i, 2, none⟩ a) i t #[x, y, a] := h.put 2 a

theorem take_yes (s : St) (n : Nat) (h : s.e = 0) (hn : n ≤ s.l.length) : s.take n = s.l.take n ∧ s.rest n = ⟨s.l.drop n, 0⟩ := by
  have e : s.taken n = s := by unfold St.taken; exact if_neg (by omega)
  unfold St.take St.rest
  rw [e, if_pos h, if_pos h]
  exact ⟨rfl, rfl⟩
set_option maxHeartbeats 1000000 in
theorem riFail_any (w : World) (r : Nat) (bv : Value) (b : List UInt8) (s : St) (x : Int) (hx : x ≠ 0) (h : RiAt w r bv b s) :
    Calls Try.prog 51 #[.pointer (some ⟨r, 0, none⟩), .int .i64 x] w fun e w' => e = .returned (.tuple #[]) ∧ RiAt w' r bv b (s.fail x) ∧ w.grownBy w' (some r) := by
  have HH := Lib.hid h
  obtain ⟨l, y⟩ := s
  obtain ⟨hv, a, hr, ha, hl⟩ := h
  have c2 : w.cell? ⟨r, 2, none⟩ = some (.int .i64 y) := hr.cell 2
  have z2 : w.frozen? ⟨r, 2, none⟩ = false := hr.frozen 2
  have HR := Lib.hid hr
  have HV := Lib.hid hv
  clear hr hl hv
  by_cases hy : y = 0
  · subst hy
    go_enter Try.func51, Try.ntmps51
    go_wp2
    go_end0
    exact ⟨rfl, ⟨HV.out.turn HR.out (no_u8R HV.out _ _) (grown_setCell _ _ _ _), a, HR.out.put3c _, ha, fun e => absurd e hx⟩, grown_setCell _ _ _ _⟩
  · have hd : decide (y = 0) = false := by simp [hy]
    go_enter Try.func51, Try.ntmps51
    go_wp2
    go_end0
    refine ⟨rfl, ?_, World.grownBy.refl _ _⟩
    unfold St.fail
    rw [if_neg hy]
    exact HH.out

set_option maxHeartbeats 2000000 in
theorem riTake_any (w : World) (r : Nat) (bv : Value) (b : List UInt8) (s : St) (n : Nat) (hn : n ≤ 100000000) (hbl : b.length ≤ 1000000000) (h : RiAt w r bv b s) :
    Calls Try.prog 53 #[.pointer (some ⟨r, 0, none⟩), .int .i64 (n : Int)] w fun e w' => ∃ v, e = .returned v ∧ Bs w' v (s.take n) ∧ RiAt w' r bv b (s.rest n) ∧ w.grownBy w' (some r) := by
  have HH := Lib.hid h
  obtain ⟨l, y⟩ := s
  obtain ⟨hv, a, hr, ha, hl⟩ := h
  have c0 : w.cell? ⟨r, 0, none⟩ = some bv := hr.cell 0
  have c1 : w.cell? ⟨r, 1, none⟩ = some (.int .i64 (a : Int)) := hr.cell 1
  have c2 : w.cell? ⟨r, 2, none⟩ = some (.int .i64 y) := hr.cell 2
  have z1 : w.frozen? ⟨r, 1, none⟩ = false := hr.frozen 1
  have z2 : w.frozen? ⟨r, 2, none⟩ = false := hr.frozen 2
  have HR := Lib.hid hr
  have HV := Lib.hid hv
  obtain ⟨A, c, rfl, h1, h2, _⟩ := hv
  unfold maxLen at h2
  simp only at hl
  have hw1 : IntKind.i64.wrap ((a : Int) + (n : Int)) = (a : Int) + (n : Int) := IntWalk.i64_in _ (by omega)
  clear hr
  by_cases hy : y = 0
  · subst hy
    have hle : l = b.drop a := hl rfl
    have hll : l.length = b.length - a := by rw [hle, List.length_drop]
    by_cases hs : (b.length : Int) < (a : Int) + (n : Int)
    · obtain ⟨t1, t2⟩ := take_no ⟨l, 0⟩ n rfl (by simp only; omega)
      have T1 := Lib.hid t1
      have T2 := Lib.hid t2
      clear t1 t2 hl hle hll
      go_enter Try.func53, Try.ntmps53
      go_wp2
      go_quiet (fail)
      go_wp2
      go_ret
      have hg := grown_setCell (w.drewN nq) r 2 (.int .i64 3)
      have hg2 : w.grownBy ((w.drewN nq).setCell ⟨r, 2, none⟩ (.int .i64 3)) (some r) := (grown_drewN (World.grownBy.refl w (some r)) nq).trans hg
      exact ⟨_, rfl, by rw [T1.out]; exact Bs.nil _, by rw [T2.out]; exact ⟨(HV.out.drewN nq).turn (HR.out.drewN nq) (no_u8R HV.out _ _) hg, a, (HR.out.drewN nq).put3c _, ha, fun e => absurd e (by decide)⟩, hg2⟩
    · obtain ⟨t1, t2⟩ := take_yes ⟨l, 0⟩ n rfl (by simp only; omega)
      simp only at t1 t2
      rw [hle, List.drop_drop] at t2
      rw [hle] at t1
      have T1 : Hid (St.take ⟨l, 0⟩ n = (b.drop a).take n) := by show _ = _; rw [← t1, hle]
      have T2 : Hid (St.rest ⟨l, 0⟩ n = ⟨b.drop (a + n), 0⟩) := by show _ = _; rw [← t2, hle]
      clear t1 t2
      have HCT := Lib.hid ((HV.out.cut a ha).fore n (by rw [List.length_drop]; omega))
      have hw2 : IntKind.i64.wrap ((a : Int) + (n : Int) - (n : Int)) = (a : Int) := by rw [IntWalk.i64_in _ (by omega)]; omega
      have hb0 : (0 : Int) ≤ (a : Int) := by omega
      have hb1 : (a : Int) ≤ (a : Int) + (n : Int) := by omega
      have hb2 : (a : Int) + (n : Int) ≤ (c : Int) := by omega
      have hb3 : (0 : Int) ≤ (a : Int) + (n : Int) := by omega
      have hb4 : ((a : Int) + (n : Int)).toNat = a + n := by omega
      have hb5 : a + n - a = n := by omega
      have hq1 : (a : Int) + (n : Int) - (n : Int) = (a : Int) := by omega
      clear hl hle hll
      by_cases hca : c = a
      · rw [if_pos hca, show c - a = 0 by omega] at HCT
        have HP : Hid (((a + n : Nat) : Int) = (a : Int) + (n : Int)) := by show _ = _; omega
        go_enter Try.func53, Try.ntmps53
        go_wp2
        go_quiet (fail)
        go_wp2
        go_quiet (fail)
        go_wp2
        go_ret
        exact ⟨_, rfl, by rw [T1.out]; exact ((HCT.out.drewN _).turn (HR.out.drewN _) (no_u8R HV.out _ _) (grown_setCell _ _ _ _)).drewN _, by rw [T2.out]; exact ⟨((HV.out.drewN _).turn (HR.out.drewN _) (no_u8R HV.out _ _) (grown_setCell _ _ _ _)).drewN _, a + n, by rw [HP.out]; exact ((HR.out.drewN _).put3b _).drewN _, by omega, fun _ => rfl⟩, grown_drewN ((grown_drewN (World.grownBy.refl w (some r)) _).trans (grown_setCell _ r 1 _)) _⟩
      · rw [if_neg hca] at HCT
        have HP : Hid (((a + n : Nat) : Int) = (a : Int) + (n : Int)) := by show _ = _; omega
        go_enter Try.func53, Try.ntmps53
        go_wp2
        go_quiet (fail)
        go_wp2
        go_quiet (fail)
        go_wp2
        go_ret
        exact ⟨_, rfl, by rw [T1.out]; exact ((HCT.out.drewN _).turn (HR.out.drewN _) (no_u8R HV.out _ _) (grown_setCell _ _ _ _)).drewN _, by rw [T2.out]; exact ⟨((HV.out.drewN _).turn (HR.out.drewN _) (no_u8R HV.out _ _) (grown_setCell _ _ _ _)).drewN _, a + n, by rw [HP.out]; exact ((HR.out.drewN _).put3b _).drewN _, by omega, fun _ => rfl⟩, grown_drewN ((grown_drewN (World.grownBy.refl w (some r)) _).trans (grown_setCell _ r 1 _)) _⟩
  · obtain ⟨t1, t2⟩ := take_err ⟨l, y⟩ n hy
    have T1 := Lib.hid t1
    have T2 := Lib.hid t2
    have hd : decide (y = 0) = false := by simp [hy]
    clear t1 t2 hl
    go_enter Try.func53, Try.ntmps53
    go_wp2
    go_quiet (fail)
    go_wp2
    go_ret
    exact ⟨_, rfl, by rw [T1.out]; exact Bs.nil _, by rw [T2.out]; exact HH.out.kept (below_drewN (Below.refl _ _) nq), grown_drewN (World.grownBy.refl w (some r)) nq⟩

set_option maxHeartbeats 1000000 in
theorem riNumber_any (w : World) (r : Nat) (bv : Value) (b : List UInt8) (s : St) (z : Int) (hbl : b.length ≤ 1000000000) (h : RiAt w r bv b s) :
    Calls Try.prog 20 #[.pointer (some ⟨r, 0, none⟩), .int .i64 z] w fun e w' => e = .returned (.int .u64 (s.num z : Int)) ∧ RiAt w' r bv b (s.numS z) ∧ w.grownBy w' (some r) := by
  have HH := Lib.hid h
  have HZ : Hid (∀ w, Calls Try.prog 50 #[.int .i64 z] w fun e w' => e = .returned (.bool (isNum z)) ∧ w = w') := fun w => refSize_any w z
  clear h
  by_cases hz : isNum z = true
  · obtain ⟨n, rfl⟩ : ∃ n : Nat, z = n := ⟨z.toNat, by have := inNum_shape z hz; omega⟩
    have hn8 : n ≤ 8 := by have := inNum_shape n hz; omega
    have H1 : Hid (s.num n = ofHighB ((s.take n).take 8)) := by show _ = _; unfold St.num; rw [if_pos hz]; rfl
    have H2 : Hid (s.numS n = s.rest n) := by show _ = _; unfold St.numS; rw [if_pos hz]; rfl
    have HT := Lib.hid (fun w h => riTake_any w r bv b s n (by omega) hbl h)
    rw [hz] at HZ
    clear hz
    go_enter Try.func20, Try.ntmps20
    go_wp2_with fail
    refine (HZ.out _).mono ?_
    intro e w1 hh
    obtain ⟨he, hw⟩ := hh
    subst he hw
    go_wp2_with fail
    refine (HT.out _ HH.out).mono ?_
    intro e w2 hh
    obtain ⟨v, he, hv, hi, hg⟩ := hh
    subst he
    have HI2 := Lib.hid hi
    have HG2 := Lib.hid hg
    have HV := Lib.hid hv
    obtain ⟨A, c, rfl, _, _, _⟩ := hv
    clear hi hg
    go_wp2_with fail
    refine (refOfHigh_any _ _ _ HV.out).mono ?_
    intro e w3 hh
    obtain ⟨he, hw⟩ := hh
    subst he hw
    go_wp2
    go_ret
    exact ⟨by rw [H1.out]; rfl, by rw [H2.out]; exact HI2.out, HG2.out⟩
  · have hz : isNum z = false := by simpa using hz
    have H1 : Hid (s.num z = 0) := by show _ = _; unfold St.num; rw [hz]; rfl
    have H2 : Hid (s.numS z = s.fail 51) := by show _ = _; unfold St.numS; rw [hz]; rfl
    have HT := Lib.hid (fun w h => riFail_any w r bv b s 51 (by decide) h)
    rw [hz] at HZ
    clear hz
    go_enter Try.func20, Try.ntmps20
    go_wp2_with fail
    refine (HZ.out _).mono ?_
    intro e w1 hh
    obtain ⟨he, hw⟩ := hh
    subst he hw
    go_wp2_with fail
    refine (HT.out _ HH.out).mono ?_
    intro e w2 hh
    obtain ⟨he, hi, hg⟩ := hh
    subst he
    have HI2 := Lib.hid hi
    have HG2 := Lib.hid hg
    clear hi hg
    go_wp2
    go_ret
    exact ⟨by rw [H1.out]; rfl, by rw [H2.out]; exact HI2.out, HG2.out⟩

/-- The document's way to say too many: the first error stays, and what is taken then is nothing. -/
def St.cap (s : St) (m : Int) (k : Int) : St := if (s.num 2 : Int) > m ∨ (s.num 2 : Int) > k then (s.numS 2).fail 2 else s.numS 2
theorem cap_take (s : St) (m k : Int) (f : Nat) : (s.cap m k).take (f * s.num 2) = (s.cntS (min m k)).take (f * s.cnt (min m k)) ∧ (s.cap m k).rest (f * s.num 2) = (s.cntS (min m k)).rest (f * s.cnt (min m k)) := by
  unfold St.cap St.cntS St.cnt
  by_cases h : (s.num 2 : Int) > m ∨ (s.num 2 : Int) > k
  · have h2 : (s.num 2 : Int) > min m k := by omega
    rw [if_pos h, if_pos h2, if_pos h2]
    have hne := fail_ne (s.numS 2) 2 (by decide)
    obtain ⟨a1, a2⟩ := take_err _ (f * s.num 2) hne
    obtain ⟨b1, b2⟩ := take_err _ (f * 0) hne
    rw [a1, a2, b1, b2]
    exact ⟨rfl, rfl⟩
  · have h2 : ¬ ((s.num 2 : Int) > min m k) := by omega
    rw [if_neg h, if_neg h2, if_neg h2]
    exact ⟨rfl, rfl⟩
set_option maxHeartbeats 1000000 in
theorem riBytes_any (w : World) (r : Nat) (bv : Value) (b : List UInt8) (s : St) (m : Int) (hbl : b.length ≤ 1000000000) (h : RiAt w r bv b s) :
    Calls Try.prog 22 #[.pointer (some ⟨r, 0, none⟩), .int .i64 m] w fun e w' => ∃ v, e = .returned v ∧ Bs w' v (s.byt m) ∧ RiAt w' r bv b (s.bytS m) ∧ w.grownBy w' (some r) := by
  have HH := Lib.hid h
  have HN := Lib.hid (fun w h => riNumber_any w r bv b s 2 hbl h)
  obtain ⟨t1, t2⟩ := cap_take s m 4000 1
  rw [Nat.one_mul, Nat.one_mul] at t1 t2
  have H1 : Hid (s.byt m = (s.cap m 4000).take (s.num 2)) := t1.symm
  have H2 : Hid (s.bytS m = (s.cap m 4000).rest (s.num 2)) := t2.symm
  have hlt := s.num_lt
  obtain ⟨N, hN⟩ : ∃ N, N = s.num 2 := ⟨_, rfl⟩
  obtain ⟨S, hS⟩ : ∃ S, S = s.numS 2 := ⟨_, rfl⟩
  have hw : IntKind.i64.wrap (N : Int) = (N : Int) := IntWalk.i64_in _ (by omega)
  have hcap : s.cap m 4000 = if (N : Int) > m ∨ (N : Int) > 4000 then S.fail 2 else S := by rw [hN, hS]; rfl
  obtain ⟨C, hC⟩ : ∃ C, C = s.cap m 4000 := ⟨_, rfl⟩
  have HT := Lib.hid (fun w h => riTake_any w r bv b C N (by omega) hbl h)
  have HF := Lib.hid (fun w h => riFail_any w r bv b S 2 (by decide) h)
  rw [← hC] at H1 H2 hcap
  rw [← hN] at H1 H2 HN
  rw [← hS] at HN
  clear h t1 t2 hN hS hC hlt
  by_cases hm : m < (N : Int)
  · have hCF : C = S.fail 2 := by rw [hcap, if_pos (.inl hm)]
    subst hCF
    clear hcap
    go_enter Try.func22, Try.ntmps22
    go_wp2_with fail
    refine (HN.out _ HH.out).mono ?_
    intro e w1 hh
    obtain ⟨he, hi, hg⟩ := hh
    subst he
    have I1 := Lib.hid hi
    have G1 := Lib.hid hg
    clear hi hg
    go_wp2_with fail
    refine (HF.out _ I1.out).mono ?_
    intro e w2 hh
    obtain ⟨he, hi, hg⟩ := hh
    subst he
    have I2 := Lib.hid hi
    have G2 := Lib.hid (G1.out.trans hg)
    clear hi hg
    go_wp2_with fail
    refine (HT.out _ I2.out).mono ?_
    intro e w3 hh
    obtain ⟨v, he, hv, hi, hg⟩ := hh
    subst he
    have I3 := Lib.hid hi
    have G3 := Lib.hid (G2.out.trans hg)
    have V3 := Lib.hid hv
    obtain ⟨A, c, rfl, _, _, _⟩ := hv
    clear hi hg
    go_wp2
    go_ret
    exact ⟨_, rfl, by rw [H1.out]; exact V3.out, by rw [H2.out]; exact I3.out, G3.out⟩
  · by_cases hk : (4000 : Int) < (N : Int)
    · have hCF : C = S.fail 2 := by rw [hcap, if_pos (.inr hk)]
      subst hCF
      clear hcap
      go_enter Try.func22, Try.ntmps22
      go_wp2_with fail
      refine (HN.out _ HH.out).mono ?_
      intro e w1 hh
      obtain ⟨he, hi, hg⟩ := hh
      subst he
      have I1 := Lib.hid hi
      have G1 := Lib.hid hg
      clear hi hg
      go_wp2_with fail
      refine (HF.out _ I1.out).mono ?_
      intro e w2 hh
      obtain ⟨he, hi, hg⟩ := hh
      subst he
      have I2 := Lib.hid hi
      have G2 := Lib.hid (G1.out.trans hg)
      clear hi hg
      go_wp2_with fail
      refine (HT.out _ I2.out).mono ?_
      intro e w3 hh
      obtain ⟨v, he, hv, hi, hg⟩ := hh
      subst he
      have I3 := Lib.hid hi
      have G3 := Lib.hid (G2.out.trans hg)
      have V3 := Lib.hid hv
      obtain ⟨A, c, rfl, _, _, _⟩ := hv
      clear hi hg
      go_wp2
      go_ret
      exact ⟨_, rfl, by rw [H1.out]; exact V3.out, by rw [H2.out]; exact I3.out, G3.out⟩
    · have hCF : C = S := by rw [hcap, if_neg (by omega)]
      subst hCF
      clear hcap HF
      go_enter Try.func22, Try.ntmps22
      go_wp2_with fail
      refine (HN.out _ HH.out).mono ?_
      intro e w1 hh
      obtain ⟨he, hi, hg⟩ := hh
      subst he
      have I1 := Lib.hid hi
      have G1 := Lib.hid hg
      clear hi hg
      go_wp2_with fail
      refine (HT.out _ I1.out).mono ?_
      intro e w3 hh
      obtain ⟨v, he, hv, hi, hg⟩ := hh
      subst he
      have I3 := Lib.hid hi
      have G3 := Lib.hid (G1.out.trans hg)
      have V3 := Lib.hid hv
      obtain ⟨A, c, rfl, _, _, _⟩ := hv
      clear hi hg
      go_wp2
      go_ret
      exact ⟨_, rfl, by rw [H1.out]; exact V3.out, by rw [H2.out]; exact I3.out, G3.out⟩

set_option maxHeartbeats 1000000 in
theorem riEnd_any (w : World) (r : Nat) (bv : Value) (b : List UInt8) (s : St) (h : RiAt w r bv b s) :
    Calls Try.prog 29 #[.pointer (some ⟨r, 0, none⟩)] w fun e w' => e = .returned (.int .i64 s.fin) ∧ Below w.heap.size w w' := by
  obtain ⟨l, y⟩ := s
  obtain ⟨hv, a, hr, ha, hl⟩ := h
  have c0 : w.cell? ⟨r, 0, none⟩ = some bv := hr.cell 0
  have c1 : w.cell? ⟨r, 1, none⟩ = some (.int .i64 (a : Int)) := hr.cell 1
  have c2 : w.cell? ⟨r, 2, none⟩ = some (.int .i64 y) := hr.cell 2
  obtain ⟨A, c, rfl, h1, h2, _⟩ := hv
  simp only at hl c2
  clear hr
  by_cases hy : y = 0
  · subst hy
    have hle : l = b.drop a := hl rfl
    by_cases hlt : (a : Int) < (b.length : Int)
    · have HF : Hid ((St.mk l 0).fin = 50) := by show _ = _; unfold St.fin; rw [if_pos rfl, if_neg (by simp only; intro e; rw [hle] at e; have := congrArg List.length e; rw [List.length_drop, List.length_nil] at this; omega)]
      clear hl hle
      go_enter Try.func29, Try.ntmps29
      go_wp2
      go_quiet (fail)
      go_wp2
      go_ret
      exact ⟨by rw [HF.out]; rfl, below_drewN (Below.refl _ _) _⟩
    · have HF : Hid ((St.mk l 0).fin = 0) := by show _ = _; unfold St.fin; rw [if_pos rfl, if_pos (by simp only; rw [hle]; exact List.drop_eq_nil_of_le (by omega))]
      clear hl hle
      go_enter Try.func29, Try.ntmps29
      go_wp2
      go_quiet (fail)
      go_wp2
      go_ret
      exact ⟨by rw [HF.out]; rfl, below_drewN (Below.refl _ _) _⟩
  · have hd : decide (y = 0) = false := by simp [hy]
    have HF : Hid ((St.mk l y).fin = y) := by show _ = _; unfold St.fin; rw [if_neg hy]
    clear hl
    go_enter Try.func29, Try.ntmps29
    go_wp2
    go_quiet (fail)
    go_wp2
    go_ret
    exact ⟨by rw [HF.out]; rfl, below_drewN (Below.refl _ _) _⟩

set_option maxHeartbeats 1000000 in
theorem riKey_any (w : World) (r : Nat) (bv : Value) (b : List UInt8) (s : St) (hbl : b.length ≤ 1000000000) (h : RiAt w r bv b s) :
    Calls Try.prog 24 #[.pointer (some ⟨r, 0, none⟩)] w fun e w' => e = .returned (.agg (keyC s.key)) ∧ RiAt w' r bv b (s.rest 32) ∧ w.grownBy w' (some r) := by
  have HH := Lib.hid h
  have hrl := h.lt
  have HT := Lib.hid (fun w h => riTake_any w r bv b s 32 (by omega) hbl h)
  have HK : Hid ((if (s.take 32).length = 32 then s.take 32 else zeroKey) = s.key) := rfl
  have LK : Hid (s.key.length = 32) := by
    show _ = _
    rw [← HK.out]
    split
    · assumption
    · exact zeroKey_length
  obtain ⟨E, hE⟩ : ∃ E : Int, E = if (s.take 32).length = 32 then 0 else if (s.take 32).length < 32 then 3 else 2 := ⟨_, rfl⟩
  have HTK : Hid (∀ w v, Bs w v (s.take 32) → Calls Try.prog 55 #[v] w (RetV w (.tuple #[keyV s.key, .int .i64 E]))) := fun w v h => by rw [hE, ← HK.out]; exact refToKey_any w v _ h
  obtain ⟨key, hkey⟩ : ∃ key, key = s.key := ⟨_, rfl⟩
  rw [← hkey] at LK HTK
  have HKY := Lib.hid hkey
  clear h hE HK hkey
  go_enter Try.func24, Try.ntmps24
  go_wp2_with ((with_reducible refine wpList_alloc_row (o := ⟨some 2, _, _, _, _, _⟩) rfl 52 rfl (keyC zeroKey) Try.zeroK ?_); intro g2 w1 n1)
  have hs := n1.spot
  have hge : w.heap.size ≤ g2 := by omega
  have hne : g2 ≠ r := by omega
  refine (HT.out _ (HH.out.kept n1.below)).mono ?_
  intro e w2 hh
  obtain ⟨v, he, hv, hi, hg⟩ := hh
  subst he
  have R2 := Lib.hid (n1.row.grown hg (by simp [hne]))
  have G2 := Lib.hid ((grown_any n1.below (some r)).trans hg)
  have I2 := Lib.hid hi
  have V2 := Lib.hid hv
  obtain ⟨A, c, rfl, _, _, _⟩ := hv
  clear hi hg n1 hs
  go_wp2_with fail
  refine (HTK.out _ _ V2.out).mono ?_
  intro e w3 hh
  obtain ⟨he, b3⟩ := hh
  subst he
  have R3 := Lib.hid (R2.out.kept b3)
  have G3 := Lib.hid (G2.out.trans (grown_any b3 (some r)))
  have I3 := Lib.hid (I2.out.kept b3)
  clear b3 R2 G2 I2 V2
  have hrz : r < w3.heap.size := I3.out.lt
  go_wp2_with (first
    | ((with_reducible refine wpList_alloc_row (o := ⟨some 3, _, _, _, _, _⟩) rfl 52 rfl (keyC zeroKey) Try.zeroK ?_); intro g3 w4 n4)
    | ((with_reducible refine wpList_store_row (o := ⟨none, _, _, _, _, _⟩) rfl 52 (.tmp 3) (.tmp 9) rfl g3 52 (keyC zeroKey) (keyC key) (by with_unfolding_all rfl) (by with_unfolding_all rfl) n4.row (keyC_same zeroKey_length LK.out) (Try.sizeKey _ LK.out) (keyC_one _) ?_); intro w5 p5; have hb5 : Below w3.heap.size w3 w5 := p5.below n4.below n4.below.size (by rw [n4.spot]; exact Nat.le_refl _))
    | (with_reducible refine wpList_load_row (o := ⟨some 11, _, _, _, _, _⟩) rfl 52 (.tmp 3) rfl g3 (by with_unfolding_all rfl) 52 (keyC key) (0, 0) (.array 32 5) (by with_unfolding_all exact p5.row) Try.underlying52 rfl (Try.sizeKey key LK.out) ?_)
    | ((with_reducible refine wpList_store_row (o := ⟨none, _, _, _, _, _⟩) rfl 52 (.tmp 2) (.tmp 11) rfl g2 52 (keyC zeroKey) (keyC key) (by with_unfolding_all rfl) (by with_unfolding_all rfl) (R3.out.kept hb5) (keyC_same zeroKey_length LK.out) (Try.sizeKey _ LK.out) (keyC_one _) ?_); intro w6 p6))
  have G6 := grown_past (G3.out.trans (grown_any hb5 (some r))) p6.grown (fun k e => by injection e with e; omega)
  refine bodyPost_ret (results_cell_row rfl _ _ g2 52 (keyC key) (0, 0) (.array 32 5) rfl p6.row Try.underlying52 rfl (Try.sizeKey _ LK.out)) rfl ?_
  refine ⟨by rw [HKY.out], ?_, G6⟩
  obtain ⟨h0, a, h1, h2, h3⟩ := I3.out
  exact ⟨HH.out.bs HH.out.1 G6, a, (h1.kept hb5).grown p6.grown (by simp [hne.symm]), h2, h3⟩
end Go.Proofs.Ytjhhpakaemnemaa
end
section
namespace Go.Proofs.Ytjhhpakaemnemaa
open Go.RowKit
set_option linter.unusedVariables false
set_option maxRecDepth 20000

set_option maxHeartbeats 2000000 in
theorem refKeys_same (w : World) (va vb : Value) (L : List (List UInt8)) (ha : Kl w va L) (hb : Kl w vb L) (hL1 : L.length ≤ 1000) :
    Calls Try.prog 25 #[va, vb] w fun e w' => e = .returned (.bool true) ∧ Below w.heap.size w w' := by
  obtain ⟨A, ca, rfl, p1, p2, p3, p4⟩ := ha
  obtain ⟨B, cb, rfl, q1, q2, _, q4⟩ := hb
  have HL := Lib.hid p3
  unfold maxLen at p2 q2
  obtain ⟨n, hn⟩ : ∃ n, n = L.length := ⟨_, rfl⟩
  rw [← hn] at p1 p4 q1 q4 hL1 ⊢
  have HLN := Lib.hid hn
  clear hn p3
  by_cases h0 : 0 < n
  · obtain ⟨ga, oa, rfl, hca⟩ := p4 h0
    obtain ⟨gb, ob, rfl, hcb⟩ := q4 h0
    have RA0 : Hid (∀ (k : Nat) (l : List UInt8), L[k]? = some l → ∀ W, Below w.heap.size w W → W.rangeAt ga (oa + k * 32) (cellsB l)) := fun k l hk W hW j u hj => (hW.cell (World.block_lt_of_cell? w _ (hca k l hk j u hj))).trans (hca k l hk j u hj)
    have RB0 : Hid (∀ (k : Nat) (l : List UInt8), L[k]? = some l → ∀ W, Below w.heap.size w W → W.rangeAt gb (ob + k * 32) (cellsB l)) := fun k l hk W hW j u hj => (hW.cell (World.block_lt_of_cell? w _ (hcb k l hk j u hj))).trans (hcb k l hk j u hj)
    clear p4 q4 hca hcb h0
    go_enter Try.func25, Try.ntmps25
    go_wp2_with fail
    go_loopw [5] (fun v wr => ∃ k : Nat, k ≤ n ∧ v = .int .i64 (k : Int) ∧ Below w.heap.size w wr) (fun v _ => n - (intOf v).toNat)
    case atStart => exact ⟨0, by omega, rfl, Below.refl _ _⟩
    case round =>
      obtain ⟨k, hk, rfl, hE⟩ := hrel
      have E := Lib.hid hE
      clear hE
      by_cases hlt : k < n
      · have hlt2 : (k : Int) < (n : Int) := by omega
        have hw1 : IntKind.i64.wrap ((k : Int) + 1) = (k : Int) + 1 := IntWalk.i64_in _ (by omega)
        have hq0 : ¬ ((k : Int) < 0) := by omega
        obtain ⟨l, hl⟩ : ∃ l, L[k]? = some l := ⟨_, List.getElem?_eq_getElem (by rw [← HLN.out]; exact hlt)⟩
        have LL : Hid (l.length = 32) := HL.out l (List.mem_of_getElem? hl)
        have RA := Lib.hid (RA0.out k l hl)
        have RB := Lib.hid (RB0.out k l hl)
        have heq := fun W => Try.eqKeyIn l l LL.out LL.out W
        rw [beq_self_eq_true] at heq
        have HEQ := Lib.hid heq
        clear hl RA0 RB0 HL heq
        go_wp2_with fail
        refine region_class (fun W => Below w.heap.size w W) E.out.drew (by kernel_rfl) (by kernel_rfl) ?_
        clear E
        refine q_run (by rfl) (v := .slice (some ⟨ga, oa, none⟩) n ca) (fun W hW => by first | rfl | (clear hW; go_simp)) ?_
        try simp only [Act.put, List.setIfInBounds_toArray, List.set_cons_zero, List.set_cons_succ]
        refine q_run (by rfl) (v := .int .i64 (k : Int)) (fun W hW => by first | rfl | (clear hW; go_simp)) ?_
        try simp only [Act.put, List.setIfInBounds_toArray, List.set_cons_zero, List.set_cons_succ]
        refine q_run (by rfl) (v := .pointer (some ⟨ga, oa + k * 32, none⟩)) (fun W hW => by first | rfl | (clear hW; go_simp)) ?_
        try simp only [Act.put, List.setIfInBounds_toArray, List.set_cons_zero, List.set_cons_succ]
        refine q_run (by rfl) (v := .agg (keyC l)) (fun W hW => run_keyL 52 (.tmp 19) rfl ga (oa + k * 32) rfl l _ (RA.out W hW) Try.underlying52 rfl (Try.sizeKeyM l LL.out)) ?_
        try simp only [Act.put, List.setIfInBounds_toArray, List.set_cons_zero, List.set_cons_succ]
        refine q_run (by rfl) (v := .slice (some ⟨gb, ob, none⟩) n cb) (fun W hW => by first | rfl | (clear hW; go_simp)) ?_
        try simp only [Act.put, List.setIfInBounds_toArray, List.set_cons_zero, List.set_cons_succ]
        refine q_run (by rfl) (v := .int .i64 (k : Int)) (fun W hW => by first | rfl | (clear hW; go_simp)) ?_
        try simp only [Act.put, List.setIfInBounds_toArray, List.set_cons_zero, List.set_cons_succ]
        refine q_run (by rfl) (v := .pointer (some ⟨gb, ob + k * 32, none⟩)) (fun W hW => by first | rfl | (clear hW; go_simp)) ?_
        try simp only [Act.put, List.setIfInBounds_toArray, List.set_cons_zero, List.set_cons_succ]
        refine q_run (by rfl) (v := .agg (keyC l)) (fun W hW => run_keyL 52 (.tmp 23) rfl gb (ob + k * 32) rfl l _ (RB.out W hW) Try.underlying52 rfl (Try.sizeKeyM l LL.out)) ?_
        try simp only [Act.put, List.setIfInBounds_toArray, List.set_cons_zero, List.set_cons_succ]
        refine q_run (by rfl) (v := .bool false) (fun W hW => by have he := HEQ.out; have hgd := Try.eqGuardKey; clear hW; go_simp) ?_
        try simp only [Act.put, List.setIfInBounds_toArray, List.set_cons_zero, List.set_cons_succ]
        refine wpQuiet_nil ?_
        intro w7 hw7
        have E7 := Lib.hid hw7
        clear hw7
        go_wp2_with fail
        refine ⟨⟨k + 1, by omega, by congr 1, E7.out⟩, ?_⟩
        show n - ((k : Int) + 1).toNat < n - (k : Int).toNat
        omega
      · have hk2 : k = n := by omega
        clear hlt
        subst hk2
        go_wp2_with fail
        go_ret
        exact ⟨rfl, E.out⟩
  · obtain rfl : n = 0 := by omega
    clear p4 q4 h0
    go_enter Try.func25, Try.ntmps25
    go_wp2_with fail
    go_loopw [5] (fun v wr => v = .int .i64 0 ∧ Below w.heap.size w wr) (fun v _ => 0)
    case atStart => exact ⟨rfl, Below.refl _ _⟩
    case round =>
      obtain ⟨rfl, hE⟩ := hrel
      have E := Lib.hid hE
      clear hE
      go_wp2_with fail
      go_ret
      exact ⟨rfl, E.out⟩

theorem wpList_oneKey {w : World} {ops : Array Oper} {rest : List Oper} {o : Oper} {a : Act} {Q : Exit → Act → World → Prop} (hgd : o.guard = none) (x : Operand) (ho : o.op = .buildSlice 55 1 #[(0, x)]) (l : List UInt8) (hl : l.length = 32) (hx : a.eval x = .agg (keyC l))
    (h : ∀ g w', RowAt w' g 52 (keyC l) → Below w.heap.size w w' → wpList Try.prog ops Q rest (a.put o.dst (.slice (some ⟨g, 0, none⟩) 1 1)) w') : wpList Try.prog ops Q (o :: rest) a w :=
  wpList_plain hgd fun _ hK => wp_oneKey x ho l hl hx (hK _ _ (h w.heap.size _ (RowAt.new w _ _) (alloc_below w _)))
theorem wpList_appKeyO {w0 w : World} {ops : Array Oper} {rest : List Oper} {o : Oper} {a : Act} {Q : Exit → Act → World → Prop} (hgd : o.guard = none) (s x : Operand)
    (ho : o.op = .call { callee := .builtin .append, args := #[s, x], argTypes := #[55, 55] })
    (v : Value) (ls : List (List UInt8)) (l : List UInt8) (n b : Nat) (hs : a.eval s = v) (hx : a.eval x = .slice (some ⟨b, 0, none⟩) 1 1) (hrow : RowAt w b 52 (keyC l)) (hl : l.length = 32) (hls : n = ls.length) (hlen : ls.length ≤ 1000)
    (hown : w.ownsRow w0.heap.size 52 32 v n (cellsB ls.flatten)) (hb : Below w0.heap.size w0 w)
    (h : ∀ v' w', w'.ownsRow w0.heap.size 52 32 v' (n + 1) (cellsB (ls ++ [l]).flatten) → Below w0.heap.size w0 w' → wpList Try.prog ops Q rest (a.put o.dst v') w') : wpList Try.prog ops Q (o :: rest) a w := by
  subst hls
  refine wpList_plain hgd fun _ hK => ?_
  obtain ⟨i0, hi0, hz0, hz1, hz2⟩ := info_parts Try.infoKey
  refine wp_append_own w s x 55 ho w0.heap.size 52 i0 (.agg (keyC zeroKey)) 32 32 Try.underlying55 hi0 hz0 hz1 hz2 rfl (by decide) v ls.length (cellsB ls.flatten) hs hown ⟨b, 0, none⟩ 1 1 (cellsB l) hx (by rw [cellsB_length, hl]) (fun j y hj => ?_) (cellsB_one l) (by unfold maxLen; omega) (by omega) hb.size fun v2 W2 ho2 hg2 _ => ?_
  · have hadd : (⟨b, 0, none⟩ : Addr).add j = ⟨b, j, none⟩ := by unfold Addr.add; split <;> simp_all
    rw [hadd, hrow.cell j]
    simpa [keyC] using hj
  · refine hK _ _ (h v2 W2 ?_ (hb.grown hg2 hb.size fun k e => (World.ownsRow.lt hown k e).1))
    rw [List.flatten_append, List.flatten_singleton, cellsB_append]
    exact ho2
end Go.Proofs.Ytjhhpakaemnemaa
end
section
namespace Go.Proofs.Ytjhhpakaemnemaa
open Go.RowKit
set_option linter.unusedVariables false
set_option maxRecDepth 20000

theorem St.key_len (s : St) : s.key.length = 32 := by
  unfold St.key
  split
  · assumption
  · exact zeroKey_length
theorem St.keys_le (s : St) (m : Int) : (s.keys m).length ≤ 100 := by
  have h1 := s.cnt_le (min m 100) (by omega)
  have h2 := (s.cntS (min m 100)).take_mul (s.cnt (min m 100))
  unfold St.keys
  rw [cut32_range, List.length_map, List.length_range]
  have h3 : (s.keyB m).length / 32 ≤ s.cnt (min m 100) := h2.2
  omega
theorem keys_next (B : List UInt8) (j : Nat) : (List.range (j + 1)).map (keyAt B) = (List.range j).map (keyAt B) ++ [keyAt B j] := by
  rw [List.range_succ, List.map_append]; rfl
set_option maxHeartbeats 4000000 in
theorem riKeys_any (w : World) (r : Nat) (bv : Value) (b : List UInt8) (s : St) (m : Int) (hbl : b.length ≤ 1000000000) (h : RiAt w r bv b s) :
    Calls Try.prog 27 #[.pointer (some ⟨r, 0, none⟩), .int .i64 m] w fun e w' => ∃ v, e = .returned v ∧ Kl w' v (s.keys m) ∧ RiAt w' r bv b (s.keyS m) ∧ w.grownBy w' (some r) := by
  have HH := Lib.hid h
  have HN := Lib.hid (fun w h => riNumber_any w r bv b s 2 hbl h)
  obtain ⟨t1, t2⟩ := cap_take s m 100 32
  have hlt := s.num_lt
  obtain ⟨N, hN⟩ : ∃ N, N = s.num 2 := ⟨_, rfl⟩
  obtain ⟨S, hS⟩ : ∃ S, S = s.numS 2 := ⟨_, rfl⟩
  have hw : IntKind.i64.wrap (N : Int) = (N : Int) := IntWalk.i64_in _ (by omega)
  have hw32 : IntKind.i64.wrap (32 * (N : Int)) = ((32 * N : Nat) : Int) := by rw [IntWalk.i64_in _ (by omega)]; omega
  have hcap : s.cap m 100 = if (N : Int) > m ∨ (N : Int) > 100 then S.fail 2 else S := by rw [hN, hS]; rfl
  obtain ⟨C, hC⟩ : ∃ C, C = s.cap m 100 := ⟨_, rfl⟩
  have HT := Lib.hid (fun w h => riTake_any w r bv b C (32 * N) (by omega) hbl h)
  have HF := Lib.hid (fun w h => riFail_any w r bv b S 2 (by decide) h)
  rw [← hC] at t1 t2 hcap
  rw [← hN] at t1 t2 HN
  rw [← hS] at HN
  have hmul := (s.cntS (min m 100)).take_mul (s.cnt (min m 100))
  obtain ⟨B, hB⟩ : ∃ B, B = C.take (32 * N) := ⟨_, rfl⟩
  obtain ⟨S2, hS2⟩ : ∃ S2, S2 = C.rest (32 * N) := ⟨_, rfl⟩
  rw [← hB] at t1 HT
  rw [← hS2] at t2 HT
  rw [← t1] at hmul
  obtain ⟨n, hn⟩ : ∃ n, n = B.length / 32 := ⟨_, rfl⟩
  rw [← hn] at hmul
  have HBL : Hid (B.length = 32 * n) := hmul.1
  have hn100 : n ≤ 100 := by have := s.cnt_le (min m 100) (by omega); omega
  have H1 : Hid (s.keys m = (List.range n).map (keyAt B)) := by
    show _ = _
    rw [← cut32_range, hn, t1]
    rfl
  have H2 : Hid (s.keyS m = S2) := t2.symm
  have HK32 : Hid (∀ j, j < n → (keyAt B j).length = 32) := fun j hj => by
    unfold keyAt
    rw [List.length_take, List.length_drop, hmul.1]
    omega
  clear h t1 t2 hN hS hC hlt hB hS2 hn hmul
  -- CASES
  by_cases hm : m < (N : Int)
  · have hCF : C = S.fail 2 := by rw [hcap, if_pos (.inl hm)]
    subst hCF
    clear hcap
    go_enter Try.func27, Try.ntmps27
    go_wp2_with fail
    refine (HN.out _ HH.out).mono ?_
    intro e w1 hh
    obtain ⟨he, hi, hg⟩ := hh
    subst he
    have I1 := Lib.hid hi
    have G1 := Lib.hid hg
    clear hi hg
    go_wp2_with fail
    refine (HF.out _ I1.out).mono ?_
    intro e w2 hh
    obtain ⟨he, hi, hg⟩ := hh
    subst he
    have I2 := Lib.hid hi
    have G2 := Lib.hid (G1.out.trans hg)
    clear hi hg
    go_wp2_with fail
    refine (HT.out _ I2.out).mono ?_
    intro e w3 hh
    obtain ⟨v, he, hv, hi, hg⟩ := hh
    subst he
    have I3 := Lib.hid hi
    have G3 := Lib.hid (G2.out.trans hg)
    have V3 := Lib.hid hv
    obtain ⟨A, c, rfl, k1, k2, _⟩ := hv
    rw [HBL.out] at k1
    unfold maxLen at k2
    have V3' : Hid (Bs w3 (.slice A (32 * n) c) B) := by have := V3.out; rw [HBL.out] at this; exact this
    rw [HBL.out]
    clear hi hg HN HT HH V3 HF I1 G1 I2 G2
    go_wp2_with fail
    go_loopw [7, 8] (fun v i wr => ∃ j p : Nat, p = 32 * j ∧ j ≤ n ∧ i = .int .i64 (p : Int) ∧ wr.ownsRow w3.heap.size 52 32 v j (cellsB ((List.range j).map (keyAt B)).flatten) ∧ Below w3.heap.size w3 wr) (fun _ i _ => 32 * n - (intOf i).toNat)
    case atStart => exact ⟨0, 0, rfl, by omega, rfl, World.ownsRow_nil _ _ _ _, Below.refl _ _⟩
    case round =>
      obtain ⟨j, p, hp, hj, rfl, hO, hE⟩ := hrel
      have HO := Lib.hid hO
      have HB := Lib.hid hE
      obtain ⟨VA, vn, vc, rfl⟩ : ∃ VA vn vc, u7 = .slice VA vn vc := by
        rcases hO.2 with ⟨rfl, _⟩ | ⟨g, cap, cur, rfl, _⟩ <;> exact ⟨_, _, _, rfl⟩
      clear hO hE
      have hw1 : IntKind.i64.wrap ((p : Int) + 32) = (p : Int) + 32 := IntWalk.i64_in _ (by omega)
      have HP := Lib.hid hp
      by_cases hlt : j < n
      · have hq : (p : Int) + 32 ≤ 32 * (n : Int) := by omega
        have hb0 : (0 : Int) ≤ (p : Int) := by omega
        have hb1 : (p : Int) ≤ (p : Int) + 32 := by omega
        have hb2 : (p : Int) + 32 ≤ (c : Int) := by omega
        have hb3 : (0 : Int) ≤ (p : Int) + 32 := by omega
        have hb4 : ((p : Int) + 32).toNat = p + 32 := by omega
        have hb5 : p + 32 - p = 32 := by omega
        have L32 := Lib.hid (HK32.out j hlt)
        have hct := (V3'.out.cut p (by rw [HBL.out]; omega)).fore 32 (by rw [List.length_drop, HBL.out]; omega)
        rw [if_neg (by omega), hp, ← keyAt, ← hp] at hct
        have HCT := Lib.hid hct
        obtain ⟨kx, hkx⟩ : ∃ kx, kx = keyAt B j := ⟨_, rfl⟩
        have HNX : Hid ((List.range (j + 1)).map (keyAt B) = (List.range j).map (keyAt B) ++ [kx]) := by show _ = _; rw [keys_next, hkx]
        rw [← hkx] at HCT L32
        obtain ⟨ks, hks⟩ : ∃ ks, ks = (List.range j).map (keyAt B) := ⟨_, rfl⟩
        have hkl : j = ks.length := by rw [hks]; simp
        have HKL := Lib.hid hkl
        have hk100 : ks.length ≤ 1000 := by omega
        rw [← hks] at HNX HO
        clear hct hkx hp hks hkl
        go_wp2_with fail
        refine (refToKey_full _ _ _ (HCT.out.below HB.out) L32.out).mono ?_
        intro e w4 hh
        obtain ⟨he, b4⟩ := hh
        subst he
        have B4 := Lib.hid (below_size HB.out b4)
        have O4 := Lib.hid (owned_far (row := none) HO.out (grown_of_below b4) (fun r e => by cases e))
        clear b4 HB HO
        go_wp2_with (first
          | ((with_reducible refine wpList_alloc_row (o := ⟨some 9, _, _, _, _, _⟩) rfl 52 rfl (keyC zeroKey) Try.zeroK ?_); intro g9 w5 n5)
          | ((with_reducible refine wpList_store_row (o := ⟨none, _, _, _, _, _⟩) rfl 52 (.tmp 9) (.tmp 41) rfl g9 52 (keyC zeroKey) (keyC kx) (by with_unfolding_all rfl) (by with_unfolding_all rfl) n5.row (keyC_same zeroKey_length L32.out) (Try.sizeKey _ L32.out) (keyC_one _) ?_); intro w6 p6; have hb6 : Below w4.heap.size w4 w6 := p6.below n5.below n5.below.size (by rw [n5.spot]; exact Nat.le_refl _); have B6 := Lib.hid (below_size B4.out hb6); have O6 := Lib.hid (owned_far (row := none) O4.out (grown_of_below hb6) (fun r e => by cases e)))
          | (with_reducible refine wpList_load_row (o := ⟨some 44, _, _, _, _, _⟩) rfl 52 (.tmp 9) rfl g9 (by with_unfolding_all rfl) 52 (keyC kx) (0, 0) (.array 32 5) (by with_unfolding_all exact p6.row) Try.underlying52 rfl (Try.sizeKey kx L32.out) ?_)
          | ((with_reducible refine wpList_oneKey (o := ⟨some 45, _, _, _, _, _⟩) rfl (.tmp 44) rfl kx L32.out (by with_unfolding_all rfl) ?_); intro g7 w7 r7 b7; have B7 := Lib.hid (below_size B6.out b7); have O7 := Lib.hid (owned_far (row := none) O6.out (grown_of_below b7) (fun r e => by cases e)))
          | ((with_reducible refine wpList_appKeyO (w0 := w3) (o := ⟨some 46, _, _, _, _, _⟩) rfl (.tmp 43) (.tmp 45) rfl (.slice VA vn vc) ks kx j g7 (by with_unfolding_all rfl) (by with_unfolding_all rfl) r7 L32.out HKL.out hk100 O7.out B7.out ?_); intro v8 w8 o8 b8))
        refine ⟨⟨j + 1, p + 32, by have := HP.out; omega, by omega, by congr 1, by rw [HNX.out]; exact o8, b8⟩, ?_⟩
        show 32 * n - ((p : Int) + 32).toNat < 32 * n - (p : Int).toNat
        omega
      · obtain rfl : j = n := by omega
        have hq : ¬ ((p : Int) + 32 ≤ 32 * (j : Int)) := by omega
        clear hlt hp
        go_wp2_with fail
        go_ret
        refine ⟨_, rfl, ?_, by rw [H2.out]; exact I3.out.kept HB.out, G3.out.trans (grown_any HB.out (some r))⟩
        rw [H1.out]
        exact Kl.of_own (ks := (List.range j).map (keyAt B)) (by rw [List.length_map, List.length_range]; exact HO.out) (fun l hl => by
          obtain ⟨x, hx, rfl⟩ := List.mem_map.1 hl
          exact HK32.out x (List.mem_range.1 hx))
  · by_cases hk : (100 : Int) < (N : Int)
    · have hCF : C = S.fail 2 := by rw [hcap, if_pos (.inr hk)]
      subst hCF
      clear hcap
      go_enter Try.func27, Try.ntmps27
      go_wp2_with fail
      refine (HN.out _ HH.out).mono ?_
      intro e w1 hh
      obtain ⟨he, hi, hg⟩ := hh
      subst he
      have I1 := Lib.hid hi
      have G1 := Lib.hid hg
      clear hi hg
      go_wp2_with fail
      refine (HF.out _ I1.out).mono ?_
      intro e w2 hh
      obtain ⟨he, hi, hg⟩ := hh
      subst he
      have I2 := Lib.hid hi
      have G2 := Lib.hid (G1.out.trans hg)
      clear hi hg
      go_wp2_with fail
      refine (HT.out _ I2.out).mono ?_
      intro e w3 hh
      obtain ⟨v, he, hv, hi, hg⟩ := hh
      subst he
      have I3 := Lib.hid hi
      have G3 := Lib.hid (G2.out.trans hg)
      have V3 := Lib.hid hv
      obtain ⟨A, c, rfl, k1, k2, _⟩ := hv
      rw [HBL.out] at k1
      unfold maxLen at k2
      have V3' : Hid (Bs w3 (.slice A (32 * n) c) B) := by have := V3.out; rw [HBL.out] at this; exact this
      rw [HBL.out]
      clear hi hg HN HT HH V3 HF I1 G1 I2 G2
      go_wp2_with fail
      go_loopw [7, 8] (fun v i wr => ∃ j p : Nat, p = 32 * j ∧ j ≤ n ∧ i = .int .i64 (p : Int) ∧ wr.ownsRow w3.heap.size 52 32 v j (cellsB ((List.range j).map (keyAt B)).flatten) ∧ Below w3.heap.size w3 wr) (fun _ i _ => 32 * n - (intOf i).toNat)
      case atStart => exact ⟨0, 0, rfl, by omega, rfl, World.ownsRow_nil _ _ _ _, Below.refl _ _⟩
      case round =>
        obtain ⟨j, p, hp, hj, rfl, hO, hE⟩ := hrel
        have HO := Lib.hid hO
        have HB := Lib.hid hE
        obtain ⟨VA, vn, vc, rfl⟩ : ∃ VA vn vc, u7 = .slice VA vn vc := by
          rcases hO.2 with ⟨rfl, _⟩ | ⟨g, cap, cur, rfl, _⟩ <;> exact ⟨_, _, _, rfl⟩
        clear hO hE
        have hw1 : IntKind.i64.wrap ((p : Int) + 32) = (p : Int) + 32 := IntWalk.i64_in _ (by omega)
        have HP := Lib.hid hp
        by_cases hlt : j < n
        · have hq : (p : Int) + 32 ≤ 32 * (n : Int) := by omega
          have hb0 : (0 : Int) ≤ (p : Int) := by omega
          have hb1 : (p : Int) ≤ (p : Int) + 32 := by omega
          have hb2 : (p : Int) + 32 ≤ (c : Int) := by omega
          have hb3 : (0 : Int) ≤ (p : Int) + 32 := by omega
          have hb4 : ((p : Int) + 32).toNat = p + 32 := by omega
          have hb5 : p + 32 - p = 32 := by omega
          have L32 := Lib.hid (HK32.out j hlt)
          have hct := (V3'.out.cut p (by rw [HBL.out]; omega)).fore 32 (by rw [List.length_drop, HBL.out]; omega)
          rw [if_neg (by omega), hp, ← keyAt, ← hp] at hct
          have HCT := Lib.hid hct
          obtain ⟨kx, hkx⟩ : ∃ kx, kx = keyAt B j := ⟨_, rfl⟩
          have HNX : Hid ((List.range (j + 1)).map (keyAt B) = (List.range j).map (keyAt B) ++ [kx]) := by show _ = _; rw [keys_next, hkx]
          rw [← hkx] at HCT L32
          obtain ⟨ks, hks⟩ : ∃ ks, ks = (List.range j).map (keyAt B) := ⟨_, rfl⟩
          have hkl : j = ks.length := by rw [hks]; simp
          have HKL := Lib.hid hkl
          have hk100 : ks.length ≤ 1000 := by omega
          rw [← hks] at HNX HO
          clear hct hkx hp hks hkl
          go_wp2_with fail
          refine (refToKey_full _ _ _ (HCT.out.below HB.out) L32.out).mono ?_
          intro e w4 hh
          obtain ⟨he, b4⟩ := hh
          subst he
          have B4 := Lib.hid (below_size HB.out b4)
          have O4 := Lib.hid (owned_far (row := none) HO.out (grown_of_below b4) (fun r e => by cases e))
          clear b4 HB HO
          go_wp2_with (first
            | ((with_reducible refine wpList_alloc_row (o := ⟨some 9, _, _, _, _, _⟩) rfl 52 rfl (keyC zeroKey) Try.zeroK ?_); intro g9 w5 n5)
            | ((with_reducible refine wpList_store_row (o := ⟨none, _, _, _, _, _⟩) rfl 52 (.tmp 9) (.tmp 41) rfl g9 52 (keyC zeroKey) (keyC kx) (by with_unfolding_all rfl) (by with_unfolding_all rfl) n5.row (keyC_same zeroKey_length L32.out) (Try.sizeKey _ L32.out) (keyC_one _) ?_); intro w6 p6; have hb6 : Below w4.heap.size w4 w6 := p6.below n5.below n5.below.size (by rw [n5.spot]; exact Nat.le_refl _); have B6 := Lib.hid (below_size B4.out hb6); have O6 := Lib.hid (owned_far (row := none) O4.out (grown_of_below hb6) (fun r e => by cases e)))
            | (with_reducible refine wpList_load_row (o := ⟨some 44, _, _, _, _, _⟩) rfl 52 (.tmp 9) rfl g9 (by with_unfolding_all rfl) 52 (keyC kx) (0, 0) (.array 32 5) (by with_unfolding_all exact p6.row) Try.underlying52 rfl (Try.sizeKey kx L32.out) ?_)
            | ((with_reducible refine wpList_oneKey (o := ⟨some 45, _, _, _, _, _⟩) rfl (.tmp 44) rfl kx L32.out (by with_unfolding_all rfl) ?_); intro g7 w7 r7 b7; have B7 := Lib.hid (below_size B6.out b7); have O7 := Lib.hid (owned_far (row := none) O6.out (grown_of_below b7) (fun r e => by cases e)))
            | ((with_reducible refine wpList_appKeyO (w0 := w3) (o := ⟨some 46, _, _, _, _, _⟩) rfl (.tmp 43) (.tmp 45) rfl (.slice VA vn vc) ks kx j g7 (by with_unfolding_all rfl) (by with_unfolding_all rfl) r7 L32.out HKL.out hk100 O7.out B7.out ?_); intro v8 w8 o8 b8))
          refine ⟨⟨j + 1, p + 32, by have := HP.out; omega, by omega, by congr 1, by rw [HNX.out]; exact o8, b8⟩, ?_⟩
          show 32 * n - ((p : Int) + 32).toNat < 32 * n - (p : Int).toNat
          omega
        · obtain rfl : j = n := by omega
          have hq : ¬ ((p : Int) + 32 ≤ 32 * (j : Int)) := by omega
          clear hlt hp
          go_wp2_with fail
          go_ret
          refine ⟨_, rfl, ?_, by rw [H2.out]; exact I3.out.kept HB.out, G3.out.trans (grown_any HB.out (some r))⟩
          rw [H1.out]
          exact Kl.of_own (ks := (List.range j).map (keyAt B)) (by rw [List.length_map, List.length_range]; exact HO.out) (fun l hl => by
            obtain ⟨x, hx, rfl⟩ := List.mem_map.1 hl
            exact HK32.out x (List.mem_range.1 hx))
    · have hCF : C = S := by rw [hcap, if_neg (by omega)]
      subst hCF
      clear hcap HF
      go_enter Try.func27, Try.ntmps27
      go_wp2_with fail
      refine (HN.out _ HH.out).mono ?_
      intro e w1 hh
      obtain ⟨he, hi, hg⟩ := hh
      subst he
      have I1 := Lib.hid hi
      have G1 := Lib.hid hg
      clear hi hg
      go_wp2_with fail
      refine (HT.out _ I1.out).mono ?_
      intro e w3 hh
      obtain ⟨v, he, hv, hi, hg⟩ := hh
      subst he
      have I3 := Lib.hid hi
      have G3 := Lib.hid (G1.out.trans hg)
      have V3 := Lib.hid hv
      obtain ⟨A, c, rfl, k1, k2, _⟩ := hv
      rw [HBL.out] at k1
      unfold maxLen at k2
      have V3' : Hid (Bs w3 (.slice A (32 * n) c) B) := by have := V3.out; rw [HBL.out] at this; exact this
      rw [HBL.out]
      clear hi hg HN HT HH V3 I1 G1
      go_wp2_with fail
      go_loopw [7, 8] (fun v i wr => ∃ j p : Nat, p = 32 * j ∧ j ≤ n ∧ i = .int .i64 (p : Int) ∧ wr.ownsRow w3.heap.size 52 32 v j (cellsB ((List.range j).map (keyAt B)).flatten) ∧ Below w3.heap.size w3 wr) (fun _ i _ => 32 * n - (intOf i).toNat)
      case atStart => exact ⟨0, 0, rfl, by omega, rfl, World.ownsRow_nil _ _ _ _, Below.refl _ _⟩
      case round =>
        obtain ⟨j, p, hp, hj, rfl, hO, hE⟩ := hrel
        have HO := Lib.hid hO
        have HB := Lib.hid hE
        obtain ⟨VA, vn, vc, rfl⟩ : ∃ VA vn vc, u7 = .slice VA vn vc := by
          rcases hO.2 with ⟨rfl, _⟩ | ⟨g, cap, cur, rfl, _⟩ <;> exact ⟨_, _, _, rfl⟩
        clear hO hE
        have hw1 : IntKind.i64.wrap ((p : Int) + 32) = (p : Int) + 32 := IntWalk.i64_in _ (by omega)
        have HP := Lib.hid hp
        by_cases hlt : j < n
        · have hq : (p : Int) + 32 ≤ 32 * (n : Int) := by omega
          have hb0 : (0 : Int) ≤ (p : Int) := by omega
          have hb1 : (p : Int) ≤ (p : Int) + 32 := by omega
          have hb2 : (p : Int) + 32 ≤ (c : Int) := by omega
          have hb3 : (0 : Int) ≤ (p : Int) + 32 := by omega
          have hb4 : ((p : Int) + 32).toNat = p + 32 := by omega
          have hb5 : p + 32 - p = 32 := by omega
          have L32 := Lib.hid (HK32.out j hlt)
          have hct := (V3'.out.cut p (by rw [HBL.out]; omega)).fore 32 (by rw [List.length_drop, HBL.out]; omega)
          rw [if_neg (by omega), hp, ← keyAt, ← hp] at hct
          have HCT := Lib.hid hct
          obtain ⟨kx, hkx⟩ : ∃ kx, kx = keyAt B j := ⟨_, rfl⟩
          have HNX : Hid ((List.range (j + 1)).map (keyAt B) = (List.range j).map (keyAt B) ++ [kx]) := by show _ = _; rw [keys_next, hkx]
          rw [← hkx] at HCT L32
          obtain ⟨ks, hks⟩ : ∃ ks, ks = (List.range j).map (keyAt B) := ⟨_, rfl⟩
          have hkl : j = ks.length := by rw [hks]; simp
          have HKL := Lib.hid hkl
          have hk100 : ks.length ≤ 1000 := by omega
          rw [← hks] at HNX HO
          clear hct hkx hp hks hkl
          go_wp2_with fail
          refine (refToKey_full _ _ _ (HCT.out.below HB.out) L32.out).mono ?_
          intro e w4 hh
          obtain ⟨he, b4⟩ := hh
          subst he
          have B4 := Lib.hid (below_size HB.out b4)
          have O4 := Lib.hid (owned_far (row := none) HO.out (grown_of_below b4) (fun r e => by cases e))
          clear b4 HB HO
          go_wp2_with (first
            | ((with_reducible refine wpList_alloc_row (o := ⟨some 9, _, _, _, _, _⟩) rfl 52 rfl (keyC zeroKey) Try.zeroK ?_); intro g9 w5 n5)
            | ((with_reducible refine wpList_store_row (o := ⟨none, _, _, _, _, _⟩) rfl 52 (.tmp 9) (.tmp 41) rfl g9 52 (keyC zeroKey) (keyC kx) (by with_unfolding_all rfl) (by with_unfolding_all rfl) n5.row (keyC_same zeroKey_length L32.out) (Try.sizeKey _ L32.out) (keyC_one _) ?_); intro w6 p6; have hb6 : Below w4.heap.size w4 w6 := p6.below n5.below n5.below.size (by rw [n5.spot]; exact Nat.le_refl _); have B6 := Lib.hid (below_size B4.out hb6); have O6 := Lib.hid (owned_far (row := none) O4.out (grown_of_below hb6) (fun r e => by cases e)))
            | (with_reducible refine wpList_load_row (o := ⟨some 44, _, _, _, _, _⟩) rfl 52 (.tmp 9) rfl g9 (by with_unfolding_all rfl) 52 (keyC kx) (0, 0) (.array 32 5) (by with_unfolding_all exact p6.row) Try.underlying52 rfl (Try.sizeKey kx L32.out) ?_)
            | ((with_reducible refine wpList_oneKey (o := ⟨some 45, _, _, _, _, _⟩) rfl (.tmp 44) rfl kx L32.out (by with_unfolding_all rfl) ?_); intro g7 w7 r7 b7; have B7 := Lib.hid (below_size B6.out b7); have O7 := Lib.hid (owned_far (row := none) O6.out (grown_of_below b7) (fun r e => by cases e)))
            | ((with_reducible refine wpList_appKeyO (w0 := w3) (o := ⟨some 46, _, _, _, _, _⟩) rfl (.tmp 43) (.tmp 45) rfl (.slice VA vn vc) ks kx j g7 (by with_unfolding_all rfl) (by with_unfolding_all rfl) r7 L32.out HKL.out hk100 O7.out B7.out ?_); intro v8 w8 o8 b8))
          refine ⟨⟨j + 1, p + 32, by have := HP.out; omega, by omega, by congr 1, by rw [HNX.out]; exact o8, b8⟩, ?_⟩
          show 32 * n - ((p : Int) + 32).toNat < 32 * n - (p : Int).toNat
          omega
        · obtain rfl : j = n := by omega
          have hq : ¬ ((p : Int) + 32 ≤ 32 * (j : Int)) := by omega
          clear hlt hp
          go_wp2_with fail
          go_ret
          refine ⟨_, rfl, ?_, by rw [H2.out]; exact I3.out.kept HB.out, G3.out.trans (grown_any HB.out (some r))⟩
          rw [H1.out]
          exact Kl.of_own (ks := (List.range j).map (keyAt B)) (by rw [List.length_map, List.length_range]; exact HO.out) (fun l hl => by
            obtain ⟨x, hx, rfl⟩ := List.mem_map.1 hl
            exact HK32.out x (List.mem_range.1 hx))
end Go.Proofs.Ytjhhpakaemnemaa
end
