/-
  Texts that belong together, merged: CodC, VltP, VpA, CodE. Conditions: as each theorem names them.
-/
import Derived.Test.YtpgbicbjlhkonaaGreatDoorQVlpAK
import Derived.Test.YtpgbicbjlhkonaaGreatDoorQVlpAA
import Derived.Test.YtpgbicbjlhkonaaGreatDoorQVlpAC
import Derived.Test.YtpgbicbjlhkonaaGreatDoorQVlpAF
import Derived.Test.YtpgbicbjlhkonaaGreatDoorQVlpAJ
section
namespace Go.Proofs.YtpgbicbjlhkonaaGreatDoor
open Go.RowKit
set_option linter.unusedVariables false
set_option maxRecDepth 20000

theorem Bs.fore {w : World} {A : Option Addr} {n c : Nat} {l : List UInt8} (h : Bs w (.slice A n c) l) (k : Nat) (hk : k ≤ l.length) : Bs w (.slice A k c) (l.take k) := by
  obtain ⟨A', c', hv, h1, h2, h3⟩ := h
  injection hv with e1 e2 e3
  subst e1 e2 e3
  have hl : (l.take k).length = k := List.length_take_of_le hk
  refine ⟨A, c, by rw [hl], by rw [hl]; omega, h2, fun h0 => ?_⟩
  rw [hl] at h0
  obtain ⟨b, off, hA, hc⟩ := h3 (by omega)
  refine ⟨b, off, hA, fun j hj => ?_⟩
  rw [hl] at hj
  rw [hc j (by omega)]
  simp
theorem grown_two (w : World) (i : Nat) (a b : Value) : w.grownBy ((w.setCell ⟨i, 0, none⟩ a).setCell ⟨i, 1, none⟩ b) (some i) := (grown_setCell w i 0 a).trans (grown_setCell _ i 1 b)
theorem RowAt.two {w : World} {i : Nat} {t : TypeId} {x y : Value} (h : RowAt w i t #[x, y]) (a b : Value) : RowAt ((w.setCell ⟨i, 0, none⟩ a).setCell ⟨i, 1, none⟩ b) i t #[a, b] := (h.put 0 a).put 1 b
theorem RowAt.fst {w : World} {i : Nat} {t : TypeId} {x y : Value} (h : RowAt w i t #[x, y]) (a : Value) : RowAt (w.setCell ⟨i, 0, none⟩ a) i t #[a, y] := h.put 0 a

set_option maxHeartbeats 1000000 in
theorem inFail_any (w : World) (i : Nat) (s : St) (x : Int) (h : InAt w i s) :
    Calls Tryz.prog 92 #[.pointer (some ⟨i, 0, none⟩), .int .i64 x] w fun e w' => e = .returned (.tuple #[]) ∧ InAt w' i (s.fail x) ∧ w.grownBy w' (some i) := by
  obtain ⟨l, y⟩ := s
  obtain ⟨v, hr, hv, hu⟩ := h
  have HU := Lib.hid hu
  clear hu
  have c0 : w.cell? ⟨i, 0, none⟩ = some v := hr.cell 0
  have c1 : w.cell? ⟨i, 1, none⟩ = some (.int .i64 y) := hr.cell 1
  have z0 : w.frozen? ⟨i, 0, none⟩ = false := hr.frozen 0
  have z1 : w.frozen? ⟨i, 1, none⟩ = false := hr.frozen 1
  have HR := Lib.hid hr
  have HV := Lib.hid hv
  obtain ⟨A, c, rfl, _, _, _⟩ := hv
  clear hr
  by_cases hy : y = 0
  · subst hy
    go_enter Tryz.func92, Tryz.ntmps92
    go_wp2
    go_end0
    refine ⟨rfl, ?_, grown_two w i _ _⟩
    exact ⟨_, HR.out.two _ _, Bs.nil _, U8At.nil _ _ _⟩
  · have hd : decide (y = 0) = false := by simp [hy]
    go_enter Tryz.func92, Tryz.ntmps92
    go_wp2
    go_end0
    refine ⟨rfl, ?_, World.grownBy.refl _ _⟩
    unfold St.fail
    rw [if_neg hy]
    exact ⟨_, HR.out, HV.out, HU.out⟩

theorem inNum_shape (z : Int) (h : isNum z = true) : z = 1 ∨ z = 2 ∨ z = 4 ∨ z = 8 := by
  simp [isNum] at h
  rcases h with ((h | h) | h) | h <;> simp [h]

set_option maxHeartbeats 1000000 in
theorem inTake_any (w : World) (i : Nat) (s : St) (n : Nat) (h : InAt w i s) :
    Calls Tryz.prog 94 #[.pointer (some ⟨i, 0, none⟩), .int .i64 (n : Int)] w fun e w' => ∃ v, e = .returned v ∧ Bs w' v (s.take n) ∧ InAt w' i (s.rest n) ∧ w.grownBy w' (some i) := by
  have HH := Lib.hid h
  obtain ⟨l, y⟩ := s
  obtain ⟨v, hr, hv, hu⟩ := h
  have HU := Lib.hid hu
  clear hu
  have c0 : w.cell? ⟨i, 0, none⟩ = some v := hr.cell 0
  have c1 : w.cell? ⟨i, 1, none⟩ = some (.int .i64 y) := hr.cell 1
  have z0 : w.frozen? ⟨i, 0, none⟩ = false := hr.frozen 0
  have HR := Lib.hid hr
  have HV := Lib.hid hv
  obtain ⟨A, c, rfl, h1, h2, _⟩ := hv
  unfold maxLen at h2
  simp only at h1 HR HV
  clear hr
  by_cases hl : l.length < n
  · have hd : decide ((l.length : Int) < (n : Int)) = true := by simp; omega
    have HF : Hid (∀ w, InAt w i ⟨l, y⟩ → Calls Tryz.prog 92 #[.pointer (some ⟨i, 0, none⟩), .int .i64 3] w fun e w' => e = .returned (.tuple #[]) ∧ InAt w' i (St.fail ⟨l, y⟩ 3) ∧ w.grownBy w' (some i)) := fun w h => inFail_any w i _ 3 h
    obtain ⟨q, hq⟩ : ∃ q, q = St.fail ⟨l, y⟩ 3 := ⟨_, rfl⟩
    have hne : q.e ≠ 0 := by rw [hq]; unfold St.fail; split <;> simp_all
    have H1 : Hid (St.take ⟨l, y⟩ n = []) := by show _ = _; unfold St.take St.taken; rw [if_pos hl, ← hq, if_neg hne]
    have H2 : Hid (St.rest ⟨l, y⟩ n = q) := by show _ = _; unfold St.rest St.taken; rw [if_pos hl, ← hq, if_neg hne]
    rw [← hq] at HF
    obtain ⟨ql, qe⟩ := q
    simp only at hne
    have hd2 : decide (qe = 0) = false := by simp [hne]
    clear hq HR HV
    go_enter Tryz.func94, Tryz.ntmps94
    go_wp2_with fail
    refine (HF.out _ HH.out).mono ?_
    intro e w1 hh
    obtain ⟨he, hi, hg⟩ := hh
    subst he
    have HI := Lib.hid hi
    have HG := Lib.hid hg
    obtain ⟨v1, hr1, _, _⟩ := hi
    have d1 : w1.cell? ⟨i, 1, none⟩ = some (.int .i64 qe) := hr1.cell 1
    clear hr1 hg c0 c1 z0
    go_wp2
    go_ret
    exact ⟨_, rfl, by rw [H1.out]; exact Bs.nil _, by rw [H2.out]; exact HI.out, HG.out⟩
  · have hd : decide ((l.length : Int) < (n : Int)) = false := by simp; omega
    by_cases hy : y = 0
    · subst hy
      have H1 : Hid (St.take ⟨l, 0⟩ n = l.take n) := by show _ = _; unfold St.take St.taken; rw [if_neg hl, if_pos rfl]
      have H2 : Hid (St.rest ⟨l, 0⟩ n = ⟨l.drop n, 0⟩) := by show _ = _; unfold St.rest St.taken; rw [if_neg hl, if_pos rfl]
      have HC := Lib.hid (HV.out.cut n (by omega))
      have UC := Lib.hid (HU.out.cut (n' := l.length - n) (c' := c - n) n)
      have HT := Lib.hid (HV.out.fore n (by omega))
      have hb1 : (0 : Int) ≤ (n : Int) := by omega
      have hb2 : (n : Int) ≤ (c : Int) := by omega
      have hb3 : (n : Int) ≤ (l.length : Int) := by omega
      by_cases hck : c = n
      · subst hck
        rw [if_pos rfl, Nat.sub_self, show l.length - c = 0 by omega] at HC UC
        go_enter Tryz.func94, Tryz.ntmps94
        go_wp2
        go_ret
        exact ⟨_, rfl, by rw [H1.out]; exact HT.out.turn HR.out (no_u8 HV.out 0) (grown_setCell _ _ _ _), by rw [H2.out]; exact ⟨_, HR.out.fst _, HC.out.turn HR.out (no_u8 HV.out 0) (grown_setCell _ _ _ _), UC.out.turn HR.out (by decide) (grown_setCell _ _ _ _)⟩, grown_setCell _ _ _ _⟩
      · rw [if_neg hck] at HC UC
        go_enter Tryz.func94, Tryz.ntmps94
        go_wp2
        go_ret
        exact ⟨_, rfl, by rw [H1.out]; exact HT.out.turn HR.out (no_u8 HV.out 0) (grown_setCell _ _ _ _), by rw [H2.out]; exact ⟨_, HR.out.fst _, HC.out.turn HR.out (no_u8 HV.out 0) (grown_setCell _ _ _ _), UC.out.turn HR.out (by decide) (grown_setCell _ _ _ _)⟩, grown_setCell _ _ _ _⟩
    · have hd2 : decide (y = 0) = false := by simp [hy]
      have H1 : Hid (St.take ⟨l, y⟩ n = []) := by show _ = _; unfold St.take St.taken; rw [if_neg hl, if_neg hy]
      have H2 : Hid (St.rest ⟨l, y⟩ n = ⟨l, y⟩) := by show _ = _; unfold St.rest St.taken; rw [if_neg hl, if_neg hy]
      go_enter Tryz.func94, Tryz.ntmps94
      go_wp2
      go_ret
      exact ⟨_, rfl, by rw [H1.out]; exact Bs.nil _, by rw [H2.out]; exact HH.out, World.grownBy.refl _ _⟩

theorem isNum_two : isNum 2 = true := rfl
set_option maxHeartbeats 1000000 in
theorem inNumber_any (w : World) (i : Nat) (s : St) (z : Int) (h : InAt w i s) :
    Calls Tryz.prog 76 #[.pointer (some ⟨i, 0, none⟩), .int .i64 z] w fun e w' => e = .returned (.int .u64 (s.num z : Int)) ∧ InAt w' i (s.numS z) ∧ w.grownBy w' (some i) := by
  have HH := Lib.hid h
  have HZ : Hid (∀ w, Calls Tryz.prog 81 #[.int .i64 z] w (RetV w (.bool (isNum z)))) := fun w => isNumber_any w z
  clear h
  by_cases hz : isNum z = true
  · obtain ⟨n, rfl⟩ : ∃ n : Nat, z = n := by rcases inNum_shape z hz with h | h | h | h <;> subst h <;> exact ⟨_, rfl⟩
    have H1 : Hid (s.num n = ofHighB ((s.take n).take 8)) := by show _ = _; unfold St.num; rw [if_pos hz]; rfl
    have H2 : Hid (s.numS n = s.rest n) := by show _ = _; unfold St.numS; rw [if_pos hz]; rfl
    have HT : Hid (∀ w, InAt w i s → Calls Tryz.prog 94 #[.pointer (some ⟨i, 0, none⟩), .int .i64 (n : Int)] w fun e w' => ∃ v, e = .returned v ∧ Bs w' v (s.take n) ∧ InAt w' i (s.rest n) ∧ w.grownBy w' (some i)) := fun w h => inTake_any w i s n h
    rw [hz] at HZ
    clear hz
    go_enter Tryz.func76, Tryz.ntmps76
    go_wp2_with fail
    refine (HZ.out _).mono ?_
    intro e w1 hh
    obtain ⟨he, b1⟩ := hh
    subst he
    have HI1 := Lib.hid (HH.out.kept b1)
    have HG1 := Lib.hid (grown_any b1 (some i))
    clear b1
    go_wp2_with fail
    refine (HT.out _ HI1.out).mono ?_
    intro e w2 hh
    obtain ⟨v, he, hv, hi, hg⟩ := hh
    subst he
    have HI2 := Lib.hid hi
    have HG2 := Lib.hid (HG1.out.trans hg)
    have HV := Lib.hid hv
    obtain ⟨A, c, rfl, _, _, _⟩ := hv
    clear hi hg
    go_wp2_with fail
    refine (OfHigh_any _ _ _ HV.out).mono ?_
    intro e w3 hh
    obtain ⟨he, hw⟩ := hh
    subst he hw
    go_wp2
    go_ret
    exact ⟨by rw [H1.out]; rfl, by rw [H2.out]; exact HI2.out, HG2.out⟩
  · have hz : isNum z = false := by simpa using hz
    have H1 : Hid (s.num z = 0) := by show _ = _; unfold St.num; rw [hz]; rfl
    have H2 : Hid (s.numS z = s.fail 51) := by show _ = _; unfold St.numS; rw [hz]; rfl
    have HT : Hid (∀ w, InAt w i s → Calls Tryz.prog 92 #[.pointer (some ⟨i, 0, none⟩), .int .i64 51] w fun e w' => e = .returned (.tuple #[]) ∧ InAt w' i (s.fail 51) ∧ w.grownBy w' (some i)) := fun w h => inFail_any w i s 51 h
    rw [hz] at HZ
    clear hz
    go_enter Tryz.func76, Tryz.ntmps76
    go_wp2_with fail
    refine (HZ.out _).mono ?_
    intro e w1 hh
    obtain ⟨he, b1⟩ := hh
    subst he
    have HI1 := Lib.hid (HH.out.kept b1)
    have HG1 := Lib.hid (grown_any b1 (some i))
    clear b1
    go_wp2_with fail
    refine (HT.out _ HI1.out).mono ?_
    intro e w2 hh
    obtain ⟨he, hi, hg⟩ := hh
    subst he
    have HI2 := Lib.hid hi
    have HG2 := Lib.hid (HG1.out.trans hg)
    clear hi hg
    go_wp2
    go_ret
    exact ⟨by rw [H1.out]; rfl, by rw [H2.out]; exact HI2.out, HG2.out⟩

theorem ofHigh_lt (l : List UInt8) (n : Nat) (h : l.length ≤ n) : ofHighB l < 256 ^ n := Nat.lt_of_lt_of_le (ofHighB_lt l) (Nat.pow_le_pow_right (by omega) h)
theorem St.num_lt (s : St) : s.num 2 < 65536 := by
  unfold St.num
  rw [if_pos isNum_two]
  refine ofHigh_lt _ 2 ?_
  rw [List.length_take]
  have := s.take_length (2 : Int).toNat
  have e : (2 : Int).toNat = 2 := rfl
  omega
theorem St.cnt_lt (s : St) (m : Int) : s.cnt m < 65536 := by
  unfold St.cnt
  have := s.num_lt
  split <;> omega

set_option maxHeartbeats 1000000 in
theorem inCount_any (w : World) (i : Nat) (s : St) (m : Int) (h : InAt w i s) :
    Calls Tryz.prog 96 #[.pointer (some ⟨i, 0, none⟩), .int .i64 m] w fun e w' => e = .returned (.int .i64 (s.cnt m : Int)) ∧ InAt w' i (s.cntS m) ∧ w.grownBy w' (some i) := by
  have HH := Lib.hid h
  have hlt := s.num_lt
  have HN : Hid (∀ w, InAt w i s → Calls Tryz.prog 76 #[.pointer (some ⟨i, 0, none⟩), .int .i64 2] w fun e w' => e = .returned (.int .u64 (s.num 2 : Int)) ∧ InAt w' i (s.numS 2) ∧ w.grownBy w' (some i)) := fun w h => inNumber_any w i s 2 h
  have HF : Hid (∀ w, InAt w i (s.numS 2) → Calls Tryz.prog 92 #[.pointer (some ⟨i, 0, none⟩), .int .i64 2] w fun e w' => e = .returned (.tuple #[]) ∧ InAt w' i ((s.numS 2).fail 2) ∧ w.grownBy w' (some i)) := fun w h => inFail_any w i _ 2 h
  clear h
  obtain ⟨N, hN⟩ : ∃ N, N = s.num 2 := ⟨_, rfl⟩
  obtain ⟨S, hS⟩ : ∃ S, S = s.numS 2 := ⟨_, rfl⟩
  have hw : IntKind.i64.wrap (N : Int) = (N : Int) := IntWalk.i64_in _ (by omega)
  by_cases hm : (N : Int) > m
  · have H1 : Hid (s.cnt m = 0) := by show _ = _; unfold St.cnt; rw [← hN, if_pos hm]
    have H2 : Hid (s.cntS m = S.fail 2) := by show _ = _; unfold St.cntS; rw [← hN, if_pos hm, hS]
    rw [← hN] at HN
    rw [← hS] at HN HF
    clear hN hS hlt
    go_enter Tryz.func96, Tryz.ntmps96
    go_wp2_with fail
    refine (HN.out _ HH.out).mono ?_
    intro e w1 hh
    obtain ⟨he, hi, hg⟩ := hh
    subst he
    have HI1 := Lib.hid hi
    have HG1 := Lib.hid hg
    clear hi hg
    go_wp2_with fail
    refine (HF.out _ HI1.out).mono ?_
    intro e w2 hh
    obtain ⟨he, hi, hg⟩ := hh
    subst he
    have HI2 := Lib.hid hi
    have HG2 := Lib.hid (HG1.out.trans hg)
    clear hi hg
    go_wp2
    go_ret
    exact ⟨by rw [H1.out]; rfl, by rw [H2.out]; exact HI2.out, HG2.out⟩
  · have H1 : Hid (s.cnt m = N) := by show _ = _; unfold St.cnt; rw [← hN, if_neg hm]
    have H2 : Hid (s.cntS m = S) := by show _ = _; unfold St.cntS; rw [← hN, if_neg hm, hS]
    rw [← hN] at HN
    rw [← hS] at HN HF
    clear hN hS hlt
    go_enter Tryz.func96, Tryz.ntmps96
    go_wp2_with fail
    refine (HN.out _ HH.out).mono ?_
    intro e w1 hh
    obtain ⟨he, hi, hg⟩ := hh
    subst he
    have HI1 := Lib.hid hi
    have HG1 := Lib.hid hg
    clear hi hg
    go_wp2
    go_ret
    exact ⟨by rw [H1.out]; rfl, by rw [H2.out]; exact HI1.out, HG1.out⟩
end Go.Proofs.YtpgbicbjlhkonaaGreatDoor
end
section
namespace Go.Proofs.YtpgbicbjlhkonaaGreatDoor
open Go.RowKit
set_option linter.unusedVariables false
set_option maxRecDepth 20000

def roomV (n : Int) : Int := if n < 1 ∨ 200 < n then 0 else 256 * n

/-- The first k sectors from lo on. -/
def secsB (C : List (List UInt8)) (lo k : Nat) : List UInt8 := ((List.range k).map fun i => sec C (lo + i)).flatten
theorem secsB_succ (C : List (List UInt8)) (lo k : Nat) : secsB C lo (k + 1) = secsB C lo k ++ sec C (lo + k) := by
  unfold secsB
  rw [List.range_succ, List.map_append, List.flatten_append]
  simp
theorem secsB_length {C : List (List UInt8)} (h : ∀ l ∈ C, l.length = 256) (lo k : Nat) (hk : lo + k ≤ C.length) : (secsB C lo k).length = 256 * k := by
  induction k with
  | zero => rfl
  | succ k ih => rw [secsB_succ, List.length_append, ih (by omega), sec_len h (by omega)]; omega
theorem Bs.mid3 {w : World} {b off n c : Nat} {l : List UInt8} (h : Bs w (.slice (some ⟨b, off, none⟩) n c) l) (k m c2 : Nat) (hk : k + m ≤ l.length) (hm : m ≤ c2) (hc : c2 ≤ maxLen) : Bs w (.slice (some ⟨b, off + k, none⟩) m c2) ((l.drop k).take m) := by
  obtain ⟨A', c', hv, h1, h2, h3⟩ := h
  injection hv with e1 e2 e3
  have hl : ((l.drop k).take m).length = m := by rw [List.length_take, List.length_drop]; omega
  refine ⟨_, c2, by rw [hl], by rw [hl]; exact hm, hc, fun h0 => ⟨b, off + k, rfl, fun j hj => ?_⟩⟩
  rw [hl] at hj
  obtain ⟨b2, off2, hA, hcc⟩ := h3 (by omega)
  rw [← e1] at hA
  injection hA with hA
  injection hA with q1 q2 _
  subst q1 q2
  have := hcc (k + j) (by omega)
  rw [Nat.add_assoc, this]
  simp
theorem own_slice {w : World} {base : Nat} {v : Value} {l : List UInt8} {e : TypeId} (h : OwnB w base e v l) (hl : 0 < l.length) : ∃ g c, v = .slice (some ⟨g, 0, none⟩) l.length c ∧ l.length ≤ c ∧ c ≤ maxLen := by
  obtain ⟨A, c, rfl, h1, h2⟩ := h.shape
  rcases h.2 with ⟨h3, _⟩ | ⟨g, cap, cur, hv, _⟩
  · injection h3 with _ h3 _
    omega
  · injection hv with e1 e2 e3
    subst e1 e3
    exact ⟨g, c, rfl, h1, h2⟩
theorem slotB_len {C : List (List UInt8)} (h : ∀ l ∈ C, l.length = 256) (lo n : Nat) (hk : lo + (n + 1) ≤ C.length) : (slotB C lo n).length = 256 * (n + 1) := secsB_length h lo (n + 1) hk
theorem highI_num2 (n : Nat) (z : Int) (hz : isNum z = true) : highI n z = (lowB n z.toNat).reverse ∧ ofHighB ((highI n z).take 8) = n % 256 ^ z.toNat ∧ (highI n z).length ≤ 8 := by
  have h8 := inNum_shape z hz
  have e : highI n z = (lowB n z.toNat).reverse := by unfold highI lowI; rw [if_pos (by omega)]
  have hl : (lowB n z.toNat).reverse.length = z.toNat := by rw [List.length_reverse]; exact lowB_length _ _
  refine ⟨e, ?_, by rw [e, hl]; omega⟩
  rw [e, List.take_of_length_le (by rw [hl]; omega)]
  have e2 : ofHighB (lowB n z.toNat).reverse = ofLowB (lowB n z.toNat).reverse.reverse := rfl
  rw [e2, List.reverse_reverse, ofLowB_lowB]
def numsV (q : Nat) (b : List UInt8) : List UInt8 := highI q 8 ++ highI b.length 8
def hd0 (q : Nat) (b : List UInt8) : List UInt8 := numsV q b ++ ((lowB 1 2).reverse ++ [digestB (numsV q b ++ b)].flatten)
def hdV (q : Nat) (b : List UInt8) : List UInt8 := pad (hd0 q b)
theorem high8_len (q : Nat) : (highI q 8).length = 8 := by
  obtain ⟨h, _, _⟩ := highI_num2 q 8 rfl
  rw [h, List.length_reverse, lowB_length]
  rfl
theorem high8_of (q : Nat) (hq : q < 18446744073709551616) : ofHighB (highI q 8) = q := by
  obtain ⟨h, h2, _⟩ := highI_num2 q 8 rfl
  rw [List.take_of_length_le (by rw [high8_len]; omega)] at h2
  rw [h2]
  exact Nat.mod_eq_of_lt hq
theorem numsV_len (q : Nat) (b : List UInt8) : (numsV q b).length = 16 := by
  unfold numsV
  rw [List.length_append, high8_len, high8_len]
theorem hd0_len (q : Nat) (b : List UInt8) : (hd0 q b).length = 50 := by
  unfold hd0
  rw [List.length_append, List.length_append, numsV_len, List.length_reverse, lowB_length, List.flatten_cons, List.flatten_nil, List.append_nil, digestB_length]
theorem hdV_nums (q : Nat) (b : List UInt8) : ∃ r, hdV q b = highI q 8 ++ (highI b.length 8 ++ r) := by
  unfold hdV hd0 numsV pad
  exact ⟨_, by simp only [List.append_assoc]; rfl⟩
theorem hdV_len (q : Nat) (b : List UInt8) : (hdV q b).length = 256 := pad_length (by rw [hd0_len]; omega)
theorem hdV_ok : HeadOk hdV := by
  refine ⟨fun q b _ => hdV_len q b, fun q b hq _ => ?_, fun q b hb => ?_⟩
  · obtain ⟨r, e⟩ := hdV_nums q b
    rw [e, List.take_left' (high8_len q), high8_of q hq]
  · obtain ⟨r, e⟩ := hdV_nums q b
    rw [e, List.drop_left' (high8_len q), List.take_left' (high8_len _), high8_of _ (by omega)]

theorem countsV_u64 (C : List (List UInt8)) (lo n : Nat) (hd : Nat → List UInt8 → List UInt8) : (countsV C lo n hd).2 < 18446744073709551616 := by
  unfold countsV
  dsimp only
  split
  · show 0 < _; decide
  · split
    · exact ofHighB_u64 _ (by rw [List.length_take]; omega)
    · show 0 < _; decide
theorem right_nats {len : Nat} {at_ n : Int} (h : rightV len at_ n = 0) : ∃ A N : Nat, at_ = (A : Int) ∧ n = (N : Int) ∧ 1 ≤ N ∧ N ≤ 200 ∧ A + 2 * N + 2 ≤ len := by
  unfold rightV at h
  have h1 : ¬ (n < 1 ∨ 200 < n) := fun h2 => by rw [if_pos h2] at h; cases h
  rw [if_neg h1] at h
  have h2 : ¬ (at_ < 0 ∨ (len : Int) < at_ ∨ (len : Int) < at_ + 2 * n + 2) := fun h2 => by rw [if_pos h2] at h; cases h
  exact ⟨at_.toNat, n.toNat, by omega, by omega, by omega, by omega, by omega⟩
theorem Dev.act_pend (d : Dev) (x : DAct) : (d.act x).2.pend.length ≤ d.pend.length + 1 := by
  cases x with
  | write i b =>
    show (d.write i b).pend.length ≤ _
    unfold Dev.write
    split
    · omega
    · split
      · omega
      · split
        · show (d.pend ++ _).length ≤ _
          rw [List.length_append]
          exact Nat.le_refl _
        · show d.pend.length ≤ _
          omega
  | sync =>
    show d.sync.pend.length ≤ _
    unfold Dev.sync
    split
    · exact Nat.zero_le _
    · show d.pend.length ≤ _
      omega
theorem Dev.run_pend (d : Dev) (l : List DAct) : (d.run l).2.pend.length ≤ d.pend.length + l.length := by
  induction l generalizing d with
  | nil => exact Nat.le_refl _
  | cons x l ih =>
    have h1 := d.act_pend x
    by_cases h0 : (d.act x).1 = 0
    · rw [Dev.run_ok l h0]
      have := ih (d.act x).2
      rw [List.length_cons]
      omega
    · rw [Dev.run_err l h0, List.length_cons]
      omega
theorem Dev.run_snoc {d : Dev} {l : List DAct} (x : DAct) (h : (d.run l).1 = 0) : d.run (l ++ [x]) = (d.run l).2.act x := by
  rw [Dev.run_app _ h]
  by_cases h0 : ((d.run l).2.act x).1 = 0
  · rw [Dev.run_ok [] h0]
    show (0, _) = _
    rw [← h0]
  · exact Dev.run_err [] h0
def WE (lo k : Nat) : List DAct := ((List.range k).map fun i => (lo + i, ([] : List UInt8))).map fun x => DAct.write x.1 x.2
theorem WE_succ (lo k : Nat) : WE lo (k + 1) = WE lo k ++ [.write (lo + k) []] := by
  unfold WE
  rw [List.range_succ, List.map_append, List.map_append]
  rfl
theorem WE_pre (lo k m : Nat) : ∃ rest, WE lo (k + m) = WE lo k ++ rest := by
  induction m with
  | zero => exact ⟨[], by rw [Nat.add_zero, List.append_nil]⟩
  | succ m ih =>
    obtain ⟨rest, e⟩ := ih
    exact ⟨rest ++ [.write (lo + (k + m)) []], by rw [← Nat.add_assoc, WE_succ, e, List.append_assoc]⟩
theorem WE_len (lo k : Nat) : (WE lo k).length = k := by simp [WE]
theorem phase_erase (lo n : Nat) : phase (eraseW lo n) = WE lo (n + 1) ++ [.sync] := rfl
def WD (lo : Nat) (b : List UInt8) (k : Nat) : List DAct := ((List.range k).map fun i => (lo + 1 + i, chunk b i)).map fun x => DAct.write x.1 x.2
theorem WD_succ (lo : Nat) (b : List UInt8) (k : Nat) : WD lo b (k + 1) = WD lo b k ++ [.write (lo + 1 + k) (chunk b k)] := by
  unfold WD
  rw [List.range_succ, List.map_append, List.map_append]
  rfl
theorem WD_pre (lo : Nat) (b : List UInt8) (k m : Nat) : ∃ rest, WD lo b (k + m) = WD lo b k ++ rest := by
  induction m with
  | zero => exact ⟨[], by rw [Nat.add_zero, List.append_nil]⟩
  | succ m ih =>
    obtain ⟨rest, e⟩ := ih
    exact ⟨rest ++ [.write (lo + 1 + (k + m)) (chunk b (k + m))], by rw [← Nat.add_assoc, WD_succ, e, List.append_assoc]⟩
theorem WD_len (lo : Nat) (b : List UInt8) (k : Nat) : (WD lo b k).length = k := by simp [WD]
theorem phase_data (lo : Nat) (b : List UInt8) : phase (dataW lo b) = WD lo b (chunks b) ++ [.sync] := rfl
theorem bestV_le (C : List (List UInt8)) (at_ n : Nat) (hd : Nat → List UInt8 → List UInt8) : (bestV C at_ n hd).1 ≤ 1 := by
  unfold bestV
  dsimp only
  split
  · exact Nat.le_refl _
  · exact Nat.zero_le _
theorem bestV_u64 (C : List (List UInt8)) (at_ n : Nat) (hd : Nat → List UInt8 → List UInt8) : (bestV C at_ n hd).2.2 < 18446744073709551616 := by
  unfold bestV
  dsimp only
  split
  · exact countsV_u64 _ _ _ _
  · exact countsV_u64 _ _ _ _
theorem chunk_bs {w : World} {bb bo c : Nat} {b : List UInt8} (h : Bs w (.slice (some ⟨bb, bo, none⟩) b.length c) b) (k : Nat) (hk : 256 * k < b.length) : Bs w (.slice (some ⟨bb, bo + 256 * k, none⟩) (min (256 * k + 256) b.length - 256 * k) (c - 256 * k)) (chunk b k) := by
  have hc : b.length ≤ c ∧ c ≤ maxLen := by
    obtain ⟨A, c', hv, h1, h2, _⟩ := h
    injection hv with _ _ e3
    subst e3
    exact ⟨h1, h2⟩
  have h2 := h.mid3 (256 * k) (min (256 * k + 256) b.length - 256 * k) (c - 256 * k) (by omega) (by omega) (by omega)
  have e : (b.drop (256 * k)).take (min (256 * k + 256) b.length - 256 * k) = chunk b k := by
    unfold chunk
    have hl : (b.drop (256 * k)).length = b.length - 256 * k := List.length_drop
    by_cases h3 : 256 * k + 256 ≤ b.length
    · rw [Nat.min_eq_left h3]
      congr 1
      omega
    · rw [Nat.min_eq_right (by omega), List.take_of_length_le (by rw [hl]; exact Nat.le_refl _), List.take_of_length_le (by rw [hl]; omega)]
  rwa [e] at h2
/-- What follows of a Save's list, done up to a place. -/
theorem save_stop1 {d : Dev} {lo : Nat} {b : List UInt8} {rest : List DAct} {k : Nat} (hk : k < chunks b) (h : (d.run (WD lo b (k + 1))).1 ≠ 0) : d.run (phase (dataW lo b) ++ rest) = d.run (WD lo b (k + 1)) := by
  obtain ⟨r, e⟩ := WD_pre lo b (k + 1) (chunks b - (k + 1))
  have e1 : k + 1 + (chunks b - (k + 1)) = chunks b := by omega
  rw [e1] at e
  rw [phase_data, e, List.append_assoc, List.append_assoc, Dev.run_stop _ h]
theorem save_sync1 {d : Dev} {lo : Nat} {b : List UInt8} (rest : List DAct) (h : (d.run (WD lo b (chunks b))).1 = 0) : d.run (phase (dataW lo b) ++ rest) = (d.run (WD lo b (chunks b))).2.run (.sync :: rest) := by
  rw [phase_data, List.append_assoc, Dev.run_app _ h]
  rfl
theorem save_phase2 (lo : Nat) (hd : List UInt8) (rest : List DAct) : phase [(lo, hd)] ++ rest = .write lo hd :: .sync :: rest := rfl
section
variable {hd : Nat → List UInt8 → List UInt8} {d : Dev} {at_ n : Int}
theorem rec_load1 (h : (loadF hd d at_ n).2.2 ≠ 0) : recF hd d at_ n = (([], 0, (loadF hd d at_ n).2.2), d) := by
  unfold loadF at h ⊢
  unfold recF
  by_cases hr : rightV d.now.length at_ n = 0
  · rw [if_pos hr] at h ⊢
    rw [if_pos hr]
    unfold loadV at h ⊢
    unfold recR
    by_cases hq : (bestV d.now at_.toNat n.toNat hd).2.2 = 0
    · rw [if_pos hq, if_pos hq]
    · rw [if_neg hq] at h
      exact absurd rfl h
  · rw [if_neg hr, if_neg hr]
theorem rec_load2 (h : (loadF hd d at_ n).2.2 = 0) : rightV d.now.length at_ n = 0 ∧ loadF hd d at_ n = ((bestV d.now at_.toNat n.toNat hd).2.1, (bestV d.now at_.toNat n.toNat hd).2.2, 0) ∧
    recF hd d at_ n = if (d.run (recV d.now at_.toNat n.toNat (bestV d.now at_.toNat n.toNat hd).1)).1 = 0 then (((bestV d.now at_.toNat n.toNat hd).2.1, (bestV d.now at_.toNat n.toNat hd).2.2, 0), (d.run (recV d.now at_.toNat n.toNat (bestV d.now at_.toNat n.toNat hd).1)).2)
      else (([], 0, (d.run (recV d.now at_.toNat n.toNat (bestV d.now at_.toNat n.toNat hd).1)).1), (d.run (recV d.now at_.toNat n.toNat (bestV d.now at_.toNat n.toNat hd).1)).2) := by
  unfold loadF at h ⊢
  unfold recF
  by_cases hr : rightV d.now.length at_ n = 0
  · rw [if_pos hr] at h ⊢
    rw [if_pos hr]
    unfold loadV at h ⊢
    unfold recR
    by_cases hq : (bestV d.now at_.toNat n.toNat hd).2.2 = 0
    · rw [if_pos hq] at h
      exact absurd (show (62 : Int) = 0 from h) (by decide)
    · rw [if_neg hq, if_neg hq]
      exact ⟨hr, rfl, rfl⟩
  · rw [if_neg hr] at h
    exact absurd h hr
end
end Go.Proofs.YtpgbicbjlhkonaaGreatDoor
end
section
namespace Go.Proofs.YtpgbicbjlhkonaaGreatDoor
open Go.RowKit
set_option linter.unusedVariables false
set_option maxRecDepth 20000

/-- The types of the blocks that a device and a Meter have. -/
def VTy (t : TypeId) : Prop := t = 65 ∨ t = 102 ∨ t = 104 ∨ t = 82
def TyF (x : World) (k : Nat) : Prop := ∃ t c, RowAt x k t c ∧ VTy t
/-- No other blocks are turned. -/
def Lk (x y : World) : Prop := Turns (TyF x) x y
section
variable {x y z : World} {k : Nat}
theorem TyF.back (h : Lk x y) (hk : k < x.heap.size) (hy : TyF y k) : TyF x k := by
  by_cases hx : TyF x k
  · exact hx
  · obtain ⟨t, c, hr, ht⟩ := hy
    exact ⟨t, c, (h.block k hk hx).symm.trans hr, ht⟩
theorem Lk.refl (x : World) : Lk x x := Turns.refl _ _
theorem Lk.of_below (h : Below x.heap.size x y) : Lk x y := Turns.of_below _ h
theorem Lk.trans (h : Lk x y) (h2 : Lk y z) : Lk x z := Turns.trans h h2 fun k hk hy => TyF.back h hk hy
theorem Lk.kept (h : Lk x y) (h2 : Below y.heap.size y z) : Lk x z := h.trans (Lk.of_below h2)
/-- What has been made since is turned. -/
theorem Lk.turn {G : Nat → Prop} (h : Lk x y) (t : Turns G y z) (hG : ∀ k, G k → x.heap.size ≤ k) : Lk x z :=
  Turns.trans h t fun k hk hg => by have := hG k hg; omega
theorem Lk.size (h : Lk x y) : x.heap.size ≤ y.heap.size := Turns.size h
theorem TyF.not_row {t : TypeId} {c : Array Value} (hr : RowAt x k t c) (ht : ¬ VTy t) : ¬ TyF x k := fun ⟨t', c', hr', ht'⟩ => ht (row_typed hr hr' ▸ ht')
theorem Lk.row (h : Lk x y) {t : TypeId} {c : Array Value} (hr : RowAt x k t c) (ht : ¬ VTy t) : RowAt y k t c := Turns.row h hr (TyF.not_row hr ht)
theorem not_u8 : ¬ VTy 5 := by unfold VTy; decide
theorem Lk.u8 (h : Lk x y) {v : Value} (hu : U8At x v) : U8At y v := fun k hk => by
  obtain ⟨c, hr⟩ := hu k hk
  exact ⟨c, h.row hr not_u8⟩
theorem Lk.bs (h : Lk x y) {v : Value} {l : List UInt8} (hb : Bs x v l) (hu : U8At x v) : Bs y v l := Turns.bs h hb fun k hk => by
  obtain ⟨c, hr⟩ := hu k hk
  exact TyF.not_row hr not_u8
theorem Lk.own (h : Lk x y) {base size n : Nat} {e : TypeId} {v : Value} {xs : List Value} (ho : x.ownsRow base e size v n xs) (he : ¬ VTy e) : y.ownsRow base e size v n xs := Turns.own h ho fun k hk => by
  obtain ⟨c, hr⟩ := own_typed ho hk
  exact TyF.not_row hr he
theorem Lk.below {w0 : World} {B : Nat} (h : Lk x y) (hb : Below B w0 x) (hB : B ≤ x.heap.size) (hl : ∀ k, TyF x k → B ≤ k) : Below B w0 y := Turns.below h hb hB hl
theorem TyF.cells (h : TyF x k) : ∃ o : Obj, x.heap[k]? = some o ∧ o.isCells = true := by
  obtain ⟨t, c, hr, _⟩ := h
  exact ⟨_, hr, rfl⟩
theorem Lk.from (h : Lk x y) (B : Nat) : KeepsFrom B x y := ⟨h.size, fun k o hB hk ho => (Turns.block h k (Array.getElem?_eq_some_iff.1 hk).1 fun ht => by
  obtain ⟨o', ho', hc⟩ := ht.cells
  rw [hk] at ho'
  cases ho'
  rw [ho] at hc
  cases hc).trans hk⟩
end

/-- The device at g holds d, the Meter at gm has counted n; their blocks are in F. -/
structure PV (F : Nat → Prop) (gm n g : Nat) (d : Dev) (x : World) : Prop where
  dev : ∃ gn cn gs cs vp, DevIs x g gn cn gs cs vp d ∧ ∀ k, Foot g gn gs vp k → F k
  met : RowAt x gm 82 (mC n)
  metF : F gm
  ty : ∀ k, F k → TyF x k
  tabs : Tabs x
  tabF : ¬ F 1 ∧ ¬ F 0
def Stp (F : Nat → Prop) (x : World) (F' : Nat → Prop) (y : World) : Prop := Turns F x y ∧ ∀ k, F' k → F k ∨ x.heap.size ≤ k
/-- Since x: the device holds d, the Meter has counted N at most; what lies elsewhere than in F is as it was. -/
def VS (F : Nat → Prop) (x : World) (gm g N : Nat) (d : Dev) (y : World) : Prop := ∃ F' n, n ≤ N ∧ PV F' gm n g d y ∧ Stp F x F' y
theorem Tabs.turned {F : Nat → Prop} {w w' : World} (h : Tabs w) (t : Turns F w w') (h1 : ¬ F 1) (h2 : ¬ F 0) : Tabs w' :=
  ⟨fun j hj => t.cell (h.cubes j hj) h1, fun j hj => t.cell (h.squares j hj) h2⟩
theorem foot_ty {x : World} {g gn cn gs cs : Nat} {vp : Value} {d : Dev} (h : DevIs x g gn cn gs cs vp d) {k : Nat} (hk : Foot g gn gs vp k) : TyF x k := by
  rcases hk with rfl | rfl | rfl | hk
  · exact ⟨_, _, h.row, .inl rfl⟩
  · obtain ⟨c, hr⟩ := h.nowRow
    exact ⟨_, _, hr, .inr (.inl rfl)⟩
  · obtain ⟨c, hr⟩ := h.sureRow
    exact ⟨_, _, hr, .inr (.inl rfl)⟩
  · obtain ⟨c, hr⟩ := own_typed h.pend hk
    exact ⟨_, _, hr, .inr (.inr (.inl rfl))⟩
theorem foot_met {x : World} {g gn cn gs cs gm : Nat} {vp : Value} {d : Dev} (h : DevIs x g gn cn gs cs vp d) {c : Array Value} (hm : RowAt x gm 82 c) : ¬ Foot g gn gs vp gm := fun hk => by
  rcases h.types hk hm with h | h | h <;> exact absurd h (by decide)
section
variable {F : Nat → Prop} {x y z : World} {gm g N : Nat} {d d' : Dev}
theorem VS.more (h : VS F x gm g N d y) {M : Nat} (hM : N ≤ M) : VS F x gm g M d y := by
  obtain ⟨F', n, hn, h1, h2⟩ := h
  exact ⟨F', n, by omega, h1, h2⟩
theorem VS.ok (h : VS F x gm g N d y) : d.Ok := by
  obtain ⟨F', n, hn, ⟨⟨_, _, _, _, _, h, _⟩, _⟩, _⟩ := h
  exact h.ok
theorem VS.size (h : VS F x gm g N d y) : x.heap.size ≤ y.heap.size := by
  obtain ⟨F', n, hn, _, h2⟩ := h
  exact h2.1.size
theorem VS.tabs (h : VS F x gm g N d y) : Tabs y := by
  obtain ⟨F', n, hn, h1, h2⟩ := h
  exact h1.tabs
theorem VS.met (h : VS F x gm g N d y) : ∃ n, n ≤ N ∧ RowAt y gm 82 (mC n) := by
  obtain ⟨F', n, hn, h1, h2⟩ := h
  exact ⟨n, hn, h1.met⟩
theorem VS.dev (h : VS F x gm g N d y) : ∃ gn cn gs cs vp, DevIs y g gn cn gs cs vp d := by
  obtain ⟨F', n, hn, ⟨⟨gn, cn, gs, cs, vp, h, _⟩, _⟩, _⟩ := h
  exact ⟨gn, cn, gs, cs, vp, h⟩
/-- Other blocks are turned, made since. -/
theorem VS.turn {G : Nat → Prop} (h : VS F x gm g N d y) (t : Turns G y z) (hG : ∀ k, G k → ¬ TyF y k ∧ x.heap.size ≤ k ∧ k ≠ 1 ∧ k ≠ 0) : VS F x gm g N d z := by
  obtain ⟨F', n, hn, ⟨⟨gn, cn, gs, cs, vp, h, hF⟩, hm, hmF, hty, htab, htabF⟩, h2, h3⟩ := h
  have hne : ∀ k, F' k → ¬ G k := fun k hk hg => (hG k hg).1 (hty k hk)
  refine ⟨F', n, hn, ⟨⟨gn, cn, gs, cs, vp, h.turned t fun k hk => hne k (hF k hk), hF⟩, t.row hm (hne gm hmF), hmF, fun k hk => ?_, htab.turned t (fun hg => (hG _ hg).2.2.1 rfl) (fun hg => (hG _ hg).2.2.2 rfl), htabF⟩, h2.trans t fun k hk hg => by have := (hG k hg).2.1; omega, h3⟩
  obtain ⟨t', c, hr, ht⟩ := hty k hk
  exact ⟨t', c, t.row hr (hne k hk), ht⟩
theorem VS.kept (h : VS F x gm g N d y) (hb : Below y.heap.size y z) : VS F x gm g N d z := h.turn (G := fun _ => False) (Turns.of_below _ hb) fun k hk => hk.elim
theorem Tabs.lt {w : World} (h : Tabs w) : 1 < w.heap.size ∧ 0 < w.heap.size := ⟨World.block_lt_of_cell? w _ (h.cubes 0 (by omega)), World.block_lt_of_cell? w _ (h.squares 0 (by omega))⟩
/-- A row grows that is neither of theirs nor a table. -/
theorem VS.grow {r : Option Nat} (h : VS F x gm g N d y) (hg : y.grownBy z r) (hr : ∀ k, r = some k → ¬ TyF y k ∧ x.heap.size ≤ k) (hx : Tabs x) : VS F x gm g N d z :=
  h.turn (G := fun k => r = some k) (Turns.of_grown hg fun k hk => hk) fun k hk => by
    have h1 := hr k hk
    have h2 := hx.lt
    exact ⟨h1.1, h1.2, by omega, by omega⟩
/-- Bytes of old. -/
theorem VS.old (h : VS F x gm g N d y) {u : Value} {l : List UInt8} (hb : Bs x u l) (hF : 0 < l.length → ∀ k, u.ownBlock = some k → ¬ F k) : Bs y u l := by
  obtain ⟨F', n, hn, h1, h2, h3⟩ := h
  obtain ⟨A, c, rfl, k1, k2, k3⟩ := hb
  refine ⟨A, c, rfl, k1, k2, fun hl => ?_⟩
  obtain ⟨b, off, rfl, hc⟩ := k3 hl
  exact ⟨b, off, rfl, fun j hj => h2.cell (hc j hj) (hF hl b rfl)⟩
theorem VS.below (h : VS (fun _ => False) x gm g N d y) : Below x.heap.size x y := by
  obtain ⟨F', n, hn, h1, h2, h3⟩ := h
  exact h2.below (Below.refl _ _) (Nat.le_refl _) fun k hk => hk.elim
theorem VS.devOf (h : VS (fun _ => False) x gm g N d y) : DevOf x y g d := by
  have hb := h.below
  obtain ⟨F', n, hn, ⟨⟨gn, cn, gs, cs, vp, h, hF⟩, _⟩, h2, h3⟩ := h
  exact ⟨hb, gn, cn, gs, cs, vp, h, fun k hk => (h3 k (hF k hk)).elim False.elim id⟩
/-- A device of the call's own, and a new Meter. -/
theorem VS.start (hx : Tabs x) (h : DevOf x y g d) (hm : NewRow y gm 82 (mC 0) z) : VS (fun _ => False) x gm g 0 d z := by
  have ht := hx.below (below_size h.1 hm.below)
  have hs := h.1.size
  have hlt := hx.lt
  have hb := below_size h.1 hm.below
  obtain ⟨b, gn, cn, gs, cs, vp, h, hF⟩ := h
  have h2 := h.kept hm.below
  have hsp := hm.spot
  have hge : ∀ k, (Foot g gn gs vp k ∨ k = gm) → x.heap.size ≤ k := fun k hk => hk.elim (hF k) fun e => by omega
  refine ⟨fun k => Foot g gn gs vp k ∨ k = gm, 0, Nat.le_refl _, ⟨⟨gn, cn, gs, cs, vp, h2, fun k hk => .inl hk⟩, hm.row, .inr rfl, fun k hk => ?_, ht, ⟨fun hk => by have := hge _ hk; omega, fun hk => by have := hge _ hk; omega⟩⟩, Turns.of_below _ hb, fun k hk => .inr (hge k hk)⟩
  rcases hk with hk | rfl
  · exact foot_ty h2 hk
  · exact ⟨_, _, hm.row, .inr (.inr (.inr rfl))⟩
/-- A call that turns the device. -/
theorem VS.ret (h : VS F x gm g N d y) {f : FuncId} {args : Array Value} {Pr : Program} {v : Value} (hc : ∀ gn cn gs cs vp, DevIs y g gn cn gs cs vp d → Calls Pr f args y (DevRet y g gn cn gs cs vp d' v)) :
    Calls Pr f args y fun e z => e = .returned v ∧ VS F x gm g N d' z ∧ Lk y z := by
  obtain ⟨F', n, hn, ⟨⟨gn, cn, gs, cs, vp, h, hF⟩, hm, hmF, hty, htab, htabF⟩, h2, h3⟩ := h
  have hsz := h2.size
  refine (hc gn cn gs cs vp h).mono fun e z ⟨vp', he, hd', ht, hv⟩ => ⟨he, ⟨fun k => Foot g gn gs vp' k ∨ k = gm, n, hn, ?_, ?_, ?_⟩, ht.mono fun k _ hk => hty k (hF k hk)⟩
  · have hm' := ht.row hm (foot_met h hm)
    have hne : ∀ k, k < y.heap.size → ¬ F' k → ¬ (Foot g gn gs vp' k ∨ k = gm) := fun k hk hf hk2 => by
      rcases hk2 with (rfl | rfl | rfl | hk2) | rfl
      · exact hf (hF _ (.inl rfl))
      · exact hf (hF _ (.inr (.inl rfl)))
      · exact hf (hF _ (.inr (.inr (.inl rfl))))
      · rcases hv k hk2 with h | h
        · exact hf (hF _ (.inr (.inr (.inr h))))
        · omega
      · exact hf hmF
    refine ⟨⟨gn, cn, gs, cs, vp', hd', fun k hk => .inl hk⟩, hm', .inr rfl, fun k hk => ?_, htab.turned ht (fun hk => htabF.1 (hF _ hk)) (fun hk => htabF.2 (hF _ hk)), hne _ htab.lt.1 htabF.1, hne _ htab.lt.2 htabF.2⟩
    rcases hk with hk | rfl
    · exact foot_ty hd' hk
    · exact ⟨_, _, hm', .inr (.inr (.inr rfl))⟩
  · refine h2.trans ht fun k hk hf => (h3 k (hF k hf)).elim id fun h => by omega
  · intro k hk
    rcases hk with (rfl | rfl | rfl | hk) | rfl
    · exact h3 _ (hF _ (.inl rfl))
    · exact h3 _ (hF _ (.inr (.inl rfl)))
    · exact h3 _ (hF _ (.inr (.inr (.inl rfl))))
    · rcases hv k hk with h | h
      · exact h3 _ (hF _ (.inr (.inr (.inr h))))
      · exact .inr (by omega)
    · exact h3 _ hmF
theorem VS.write (h : VS F x gm g N d y) (i : Int) (vb : Value) (b : List UInt8) (hb : Bs y vb b) (hp : d.pend.length ≤ 1000000) :
    Calls Tryz.prog 19 #[.pointer (some ⟨g, 0, none⟩), .int .i64 i, vb] y fun e z => e = .returned (.int .i64 (d.writeE i b)) ∧ VS F x gm g N (d.write i b) z ∧ Lk y z :=
  h.ret fun gn cn gs cs vp hd => devWrite_any y g gn cn gs cs vp d hd i vb b hb hp
theorem VS.sync (h : VS F x gm g N d y) : Calls Tryz.prog 36 #[.pointer (some ⟨g, 0, none⟩)] y fun e z => e = .returned (.int .i64 d.syncE) ∧ VS F x gm g N d.sync z ∧ Lk y z :=
  h.ret fun gn cn gs cs vp hd => devSync_any y g gn cn gs cs vp d hd
theorem VS.fuse (h : VS F x gm g N d y) (n : Int) (hn : -9223372036854775808 ≤ n ∧ n ≤ 9223372036854775807) : Calls Tryz.prog 14 #[.pointer (some ⟨g, 0, none⟩), .int .i64 n] y fun e z => e = .returned (.tuple #[]) ∧ VS F x gm g N (d.set n) z ∧ Lk y z :=
  h.ret fun gn cn gs cs vp hd => devFuse_any y g gn cn gs cs vp d hd n hn
theorem VS.len (h : VS F x gm g N d y) : Calls Tryz.prog 57 #[.pointer (some ⟨g, 0, none⟩)] y (RetV y (.int .i64 (d.now.length : Int))) := by
  obtain ⟨gn, cn, gs, cs, vp, h⟩ := h.dev
  exact devLen_any y g gn cn gs cs vp d h
theorem VS.read (h : VS F x gm g N d y) (i : Int) :
    Calls Tryz.prog 26 #[.pointer (some ⟨g, 0, none⟩), .int .i64 i] y fun e z => ∃ v, e = .returned (.tuple #[v, .int .i64 (d.readE i)]) ∧ OwnB z y.heap.size 5 v (d.readB i) ∧ Below y.heap.size y z := by
  obtain ⟨gn, cn, gs, cs, vp, h⟩ := h.dev
  exact devRead_any y g gn cn gs cs vp d h i
/-- A digest. -/
theorem VS.sum (h : VS F x gm g N d y) (hN : N ≤ 1000000000) (v : Value) (ls : List (List UInt8)) (dg : List UInt8) (hd : dg = digestB ls.flatten) (hb : Bss y v ls) (hl : ls.flatten.length ≤ 1000000) (hm : ls.length ≤ 1000000) :
    Calls Tryz.prog 63 #[.pointer (some ⟨gm, 0, none⟩), v] y fun e z => e = .returned (.agg (keyC dg)) ∧ VS F x gm g (N + 1) d z ∧ Lk y z := by
  obtain ⟨F', n, hn, ⟨⟨gn, cn, gs, cs, vp, h, hF⟩, hmt, hmF, hty, htab, htabF⟩, h2, h3⟩ := h
  refine (Sum_is y htab gm n _ v ls dg hd (by omega) hmt hb hl hm).mono fun e z ⟨he, hr, hg⟩ => ?_
  have ht : Turns (fun k => k = gm) y z := Turns.of_grown hg fun k hk => (Option.some.inj hk).symm
  have hne : ∀ k, Foot g gn gs vp k → k ≠ gm := fun k hk e => foot_met h hmt (e ▸ hk)
  refine ⟨he, ⟨F', n + 1, by omega, ⟨⟨gn, cn, gs, cs, vp, h.turned ht hne, hF⟩, hr, hmF, fun k hk => ?_, htab.turned ht (fun e => htabF.1 (e ▸ hmF)) (fun e => htabF.2 (e ▸ hmF)), htabF⟩, h2.trans ht fun k hk e => ?_, h3⟩, ht.mono fun k _ e => e ▸ hty gm hmF⟩
  · by_cases e : k = gm
    · subst e
      exact ⟨_, _, hr, .inr (.inr (.inr rfl))⟩
    · obtain ⟨t', c, hr', ht'⟩ := hty k hk
      exact ⟨t', c, ht.row hr' e, ht'⟩
  · subst e
    exact (h3 _ hmF).elim id fun h => by omega
end
end Go.Proofs.YtpgbicbjlhkonaaGreatDoor
end
section
namespace Go.Proofs.YtpgbicbjlhkonaaGreatDoor
open Go.RowKit
set_option linter.unusedVariables false
set_option maxRecDepth 20000

theorem lies_nil (w : World) (v : Value) (n c : Nat) : ∀ k, (Value.slice none n c).ownBlock = some k → v.ownBlock = some k ∨ w.heap.size ≤ k := fun k h => by cases h

set_option maxHeartbeats 1000000 in
theorem outFail_any (w : World) (o : Nat) (v : Value) (s : St) (x : Int) (h : OutAt w o v s) :
    Calls Tryz.prog 82 #[.pointer (some ⟨o, 0, none⟩), .int .i64 x] w fun e w' => e = .returned (.tuple #[]) ∧ ∃ v', OutAt w' o v' (s.fail x) ∧ OutStep w w' o v v' := by
  obtain ⟨l, y⟩ := s
  obtain ⟨hr, ho⟩ := h
  have c0 : w.cell? ⟨o, 0, none⟩ = some v := hr.cell 0
  have c1 : w.cell? ⟨o, 1, none⟩ = some (.int .i64 y) := hr.cell 1
  have z0 : w.frozen? ⟨o, 0, none⟩ = false := hr.frozen 0
  have z1 : w.frozen? ⟨o, 1, none⟩ = false := hr.frozen 1
  have HR := Lib.hid hr
  have HO := Lib.hid ho
  obtain ⟨A, c, rfl, _, _⟩ := ho.shape
  clear hr ho
  by_cases hy : y = 0
  · subst hy
    go_enter Tryz.func82, Tryz.ntmps82
    go_wp2
    go_end0
    exact ⟨rfl, _, ⟨HR.out.two _ _, OwnB.nil _ _ _⟩, OutStep.row (grown_two w o _ _) (lies_nil _ _ _ _)⟩
  · have hd : decide (y = 0) = false := by simp [hy]
    go_enter Tryz.func82, Tryz.ntmps82
    go_wp2
    go_end0
    refine ⟨rfl, _, ?_, OutStep.refl _ _ _⟩
    unfold St.fail
    rw [if_neg hy]
    exact ⟨HR.out, HO.out⟩

set_option maxHeartbeats 1000000 in
theorem outPut_any (w : World) (o : Nat) (v : Value) (s : St) (u : Value) (b : List UInt8) (h : OutAt w o v s) (hu : Bs w u b) (hl : s.l.length + b.length ≤ 140737488355328) :
    Calls Tryz.prog 83 #[.pointer (some ⟨o, 0, none⟩), u] w fun e w' => e = .returned (.tuple #[]) ∧ ∃ v', OutAt w' o v' (s.put b) ∧ OutStep w w' o v v' := by
  have hfar := h.far
  obtain ⟨l, y⟩ := s
  obtain ⟨hr, ho⟩ := h
  have c0 : w.cell? ⟨o, 0, none⟩ = some v := hr.cell 0
  have c1 : w.cell? ⟨o, 1, none⟩ = some (.int .i64 y) := hr.cell 1
  have HR := Lib.hid hr
  have HO := Lib.hid ho
  have HU := Lib.hid hu
  obtain ⟨A, c, rfl, _, _⟩ := ho.shape
  obtain ⟨A2, c2, rfl, _, _⟩ := hu
  simp only at hl HR HO
  clear hr ho
  by_cases hy : y = 0
  · subst hy
    obtain ⟨m, hm⟩ : ∃ m, m = l ++ b := ⟨_, rfl⟩
    have E : Hid (St.put ⟨l, 0⟩ b = ⟨m, 0⟩) := by show _ = _; unfold St.put; rw [if_pos rfl, hm]
    have HM := Lib.hid hm
    clear hm
    go_enter Tryz.func83, Tryz.ntmps83
    go_wp2_with (at_builtin; go_loud (refine wpList_appD (o := ⟨some 19, _, _, _, _, _⟩) rfl (.tmp 17) (.tmp 18) 38 rfl 0 5 (by kernel_rfl) Tryz.underlying38 _ _ l b rfl rfl HO.out HU.out hl (Nat.zero_le _) ?_); intro v1 w1 own0 gr1 li1; have own1 : OwnB w1 0 5 v1 m := HM.out ▸ own0; have OW1 := Lib.hid own1; clear own0; have R1 := Lib.hid (HR.out.grown gr1 hfar); have z0 := R1.out.frozen 0; have d0 : w1.cell? ⟨o, 0, none⟩ = some (.slice A l.length c) := R1.out.cell 0; obtain ⟨A1, cc1, rfl, _, _⟩ := own1.shape; clear own1)
    go_end0
    rw [E.out]
    have own1 := OW1.out
    have hst := grown_setCell w1 o 0 (.slice A1 m.length cc1)
    refine ⟨rfl, _, ⟨R1.out.fst _, ?_⟩, (OutStep.own gr1 li1).trans (OutStep.row hst fun k hk => .inl hk)⟩
    exact World.ownsRow.kept own1 hst (by
      rcases hv : (Value.slice A1 m.length cc1).ownBlock with _ | k
      · exact .inl rfl
      · refine .inr fun e => ?_
        have := own1.other R1.out (show (126 : Nat) ≠ 5 by decide)
        exact this (by rw [hv, e]))
  · have hd : decide (y = 0) = false := by simp [hy]
    go_enter Tryz.func83, Tryz.ntmps83
    go_wp2
    go_end0
    refine ⟨rfl, _, ?_, OutStep.refl _ _ _⟩
    unfold St.put
    rw [if_neg hy]
    exact ⟨HR.out, HO.out⟩
theorem St.put_length (s : St) (b : List UInt8) : (s.put b).l.length ≤ s.l.length + b.length := by
  unfold St.put
  split <;> simp
/-- What was handed in lies apart from the Out, and still does. -/
def Off (o : Nat) (v u : Value) : Prop := ∀ k, u.ownBlock = some k → k ≠ o ∧ v.ownBlock ≠ some k
theorem Off.step {w w' : World} {o : Nat} {v v' u : Value} {l : List UInt8} (h : Off o v u) (hb : ∀ k, u.ownBlock = some k → k < w.heap.size) (hs : OutStep w w' o v v') : Off o v' u := fun k hk => ⟨(h k hk).1, fun e => by
  rcases hs.lies k e with h1 | h1
  · exact (h k hk).2 h1
  · have := hb k hk; omega⟩
theorem Off.fresh {w : World} {o : Nat} {v u : Value} {s : St} (h : OutAt w o v s) (hu : ∀ k, u.ownBlock = some k → w.heap.size ≤ k) : Off o v u := fun k hk => by
  have := hu k hk
  have h1 := h.1.lt
  refine ⟨by omega, fun e => ?_⟩
  have := (World.ownsRow.lt h.2 k e).2
  omega

set_option maxHeartbeats 1000000 in
theorem outDone_any (w : World) (o : Nat) (v : Value) (s : St) (h : OutAt w o v s) (hl : s.l.length ≤ 1000000000) :
    Calls Tryz.prog 61 #[.pointer (some ⟨o, 0, none⟩)] w fun e w' => ∃ u, e = .returned (.tuple #[u, .int .i64 s.e]) ∧ OwnB w' w.heap.size 5 u s.l ∧ Below w.heap.size w w' := by
  obtain ⟨l, y⟩ := s
  obtain ⟨hr, ho⟩ := h
  have HB := Lib.hid ho.bs
  obtain ⟨A, c, rfl, _, _⟩ := ho.shape
  have c0 : w.cell? ⟨o, 0, none⟩ = some (.slice A l.length c) := hr.cell 0
  have c1 : w.cell? ⟨o, 1, none⟩ = some (.int .i64 y) := hr.cell 1
  have HC : Hid (∀ w, Bs w (.slice A l.length c) l → Calls Tryz.prog 79 #[.slice A l.length c] w fun e w' => ∃ v', e = .returned v' ∧ OwnB w' w.heap.size 5 v' l ∧ Below w.heap.size w w') := fun w h => clone_any w _ l h (by simp only at hl; omega)
  have hS0 := And.intro c0 c1
  clear hr ho hl c0 c1
  go_enter Tryz.func61, Tryz.ntmps61
  go_wp2_with fail
  refine plain_region (S := fun W => W.cell? ⟨o, 0, none⟩ = some (.slice A l.length c) ∧ W.cell? ⟨o, 1, none⟩ = some (.int .i64 y)) (fin := fun _ => false) (by kernel_rfl) ?_
  have hS : w.drew.cell? ⟨o, 0, none⟩ = some (.slice A l.length c) ∧ w.drew.cell? ⟨o, 1, none⟩ = some (.int .i64 y) := hS0
  clear hS0
  change walkS _ _ _ _ _ _ 11 _ _ _
  refine walkS_take (i := 0) (oi := ⟨some 6, _, _, _, _, _⟩) (v := .pointer (some ⟨o, 0, none⟩)) rfl (by kernel_rfl) (by kernel_rfl) (fun _ _ _ h => h) _ _ _ _ (by kernel_rfl) (by kernel_rfl) (Or.inl ⟨by rfl, fun w' hS' => (by clear hS hS'; go_simp)⟩) hS ?_
  try simp only [Act.put, List.setIfInBounds_toArray, List.set_cons_zero, List.set_cons_succ]
  refine walkS_take (i := 1) (oi := ⟨some 7, _, _, _, _, _⟩) (v := .pointer (some ⟨o, 0, none⟩)) rfl (by kernel_rfl) (by kernel_rfl) (fun _ _ _ h => h) _ _ _ _ (by kernel_rfl) (by kernel_rfl) (Or.inl ⟨by rfl, fun w' hS' => (by clear hS hS'; go_simp)⟩) hS ?_
  try simp only [Act.put, List.setIfInBounds_toArray, List.set_cons_zero, List.set_cons_succ]
  refine walkS_take (i := 2) (oi := ⟨some 8, _, _, _, _, _⟩) (v := .pointer (some ⟨o, 0, none⟩)) rfl (by kernel_rfl) (by kernel_rfl) (fun _ _ _ h => h) _ _ _ _ (by kernel_rfl) (by kernel_rfl) (Or.inl ⟨by rfl, fun w' hS' => (by clear hS hS'; go_simp)⟩) hS ?_
  try simp only [Act.put, List.setIfInBounds_toArray, List.set_cons_zero, List.set_cons_succ]
  refine walkS_take (i := 3) (oi := ⟨some 9, _, _, _, _, _⟩) (v := .slice A l.length c) rfl (by kernel_rfl) (by kernel_rfl) (fun _ _ _ h => h) _ _ _ _ (by kernel_rfl) (by kernel_rfl) (Or.inl ⟨by rfl, fun w' hS' => (by obtain ⟨c0, c1⟩ := hS'; clear hS; go_simp)⟩) hS ?_
  try simp only [Act.put, List.setIfInBounds_toArray, List.set_cons_zero, List.set_cons_succ]
  refine walkS_take (i := 5) (oi := ⟨some 11, _, _, _, _, _⟩) (v := .pointer (some ⟨o, 0, none⟩)) rfl (by kernel_rfl) (by kernel_rfl) (fun _ _ _ h => h) _ _ _ _ (by kernel_rfl) (by kernel_rfl) (Or.inl ⟨by rfl, fun w' hS' => (by clear hS hS'; go_simp)⟩) hS ?_
  try simp only [Act.put, List.setIfInBounds_toArray, List.set_cons_zero, List.set_cons_succ]
  refine walkS_take (i := 6) (oi := ⟨some 12, _, _, _, _, _⟩) (v := .pointer (some ⟨o, 0, none⟩)) rfl (by kernel_rfl) (by kernel_rfl) (fun _ _ _ h => h) _ _ _ _ (by kernel_rfl) (by kernel_rfl) (Or.inl ⟨by rfl, fun w' hS' => (by clear hS hS'; go_simp)⟩) hS ?_
  try simp only [Act.put, List.setIfInBounds_toArray, List.set_cons_zero, List.set_cons_succ]
  refine walkS_take (i := 7) (oi := ⟨some 13, _, _, _, _, _⟩) (v := .pointer (some ⟨o, 1, none⟩)) rfl (by kernel_rfl) (by kernel_rfl) (fun _ _ _ h => h) _ _ _ _ (by kernel_rfl) (by kernel_rfl) (Or.inl ⟨by rfl, fun w' hS' => (by clear hS hS'; go_simp)⟩) hS ?_
  try simp only [Act.put, List.setIfInBounds_toArray, List.set_cons_zero, List.set_cons_succ]
  refine walkS_take (i := 8) (oi := ⟨some 14, _, _, _, _, _⟩) (v := .int .i64 y) rfl (by kernel_rfl) (by kernel_rfl) (fun _ _ _ h => h) _ _ _ _ (by kernel_rfl) (by kernel_rfl) (Or.inl ⟨by rfl, fun w' hS' => (by obtain ⟨c0, c1⟩ := hS'; clear hS; go_simp)⟩) hS ?_
  try simp only [Act.put, List.setIfInBounds_toArray, List.set_cons_zero, List.set_cons_succ]
  refine walkS_only (i := 4) (o := ⟨some 10, _, _, _, _, _⟩) (by kernel_rfl) rfl rfl fun KK hKK => ?_
  go_simp
  refine (HC.out _ HB.out.drew).mono ?_
  intro e w1 hh
  obtain ⟨u, he, ho1, b1⟩ := hh
  subst he
  have HO1 := Lib.hid ho1
  have B1 : Hid (Below w.heap.size w w1) := ((Below.refl _ w).drew).trans b1
  obtain ⟨A1, c1, rfl, _, _⟩ := ho1.shape
  have hS1 : w1.cell? ⟨o, 0, none⟩ = some (.slice A l.length c) ∧ w1.cell? ⟨o, 1, none⟩ = some (.int .i64 y) := ⟨(B1.out.cell (World.block_lt_of_cell? w _ hS.1)).trans hS.1, (B1.out.cell (World.block_lt_of_cell? w _ hS.2)).trans hS.2⟩
  refine hKK _ _ (.inr hS1) ?_
  clear hKK KK hS ho1 b1
  try simp only [Act.put, List.setIfInBounds_toArray, List.set_cons_zero, List.set_cons_succ]
  refine walkS_only (i := 9) (o := ⟨some 2, _, _, _, _, _⟩) (by kernel_rfl) rfl rfl fun KK hKK => ?_
  go_simp
  refine hKK _ _ (.inr hS1) ?_
  clear hKK KK
  try simp only [Act.put, List.setIfInBounds_toArray, List.set_cons_zero, List.set_cons_succ]
  refine walkS_only (i := 10) (o := ⟨some 3, _, _, _, _, _⟩) (by kernel_rfl) rfl rfl fun KK hKK => ?_
  go_simp
  refine hKK _ _ (.inr hS1) (walkS_done (by kernel_rfl) ?_ _)
  clear hKK KK
  go_wp2
  go_ret2
  exact ⟨_, rfl, HO1.out, B1.out⟩

set_option maxHeartbeats 1000000 in
theorem outNumber_any (w : World) (o : Nat) (v : Value) (s : St) (n : Nat) (z : Int) (hn : n < 18446744073709551616) (h : OutAt w o v s) (hs : s.l.length ≤ 1000000000) :
    Calls Tryz.prog 60 #[.pointer (some ⟨o, 0, none⟩), .int .u64 (n : Int), .int .i64 z] w fun e w' => e = .returned (.tuple #[]) ∧ ∃ v', OutAt w' o v' (s.wNum n z) ∧ OutStep w w' o v v' := by
  have HH := Lib.hid h
  have HZ : Hid (∀ w, Calls Tryz.prog 81 #[.int .i64 z] w (RetV w (.bool (isNum z)))) := fun w => isNumber_any w z
  have HX := Lib.hid (fun w h => outFail_any w o v s 51 h)
  clear h
  by_cases hz : isNum z = true
  · have HP : Hid (∀ w u, OutAt w o v s → Bs w u (lowB n z.toNat).reverse → Calls Tryz.prog 83 #[.pointer (some ⟨o, 0, none⟩), u] w fun e w' => e = .returned (.tuple #[]) ∧ ∃ v', OutAt w' o v' (s.put (lowB n z.toNat).reverse) ∧ OutStep w w' o v v') := fun w u h hu => outPut_any w o v s u _ h hu (by rw [List.length_reverse, lowB_length]; have := inNum_shape z hz; omega)
    have HN : Hid (∀ w, Calls Tryz.prog 84 #[.int .u64 (n : Int), .int .i64 z] w (RetBs w (lowB n z.toNat).reverse)) := fun w => by
      have h8 := inNum_shape z hz
      have := High_in w n z.toNat hn (by omega) (by omega)
      rwa [show ((z.toNat : Nat) : Int) = z by omega] at this
    by_cases hlt : n < 256 ^ z.toNat
    · have E : Hid (s.wNum n z = s.put (lowB n z.toNat).reverse) := by show _ = _; unfold St.wNum; rw [if_pos ⟨hz, hlt⟩]
      rw [hz] at HZ
      rcases inNum_shape z hz with rfl | rfl | rfl | rfl
      · have hq2 : n < 256 := by simpa using hlt
        have hq : ((n : Int) / 256 != 0) = false := by have h0 : (n : Int) / 256 = 0 := (by omega); simp [h0]
        clear hz
        go_enter Tryz.func60, Tryz.ntmps60
        go_wp2_with fail
        refine (HZ.out _).mono ?_
        intro e w1 hh
        obtain ⟨he, b1⟩ := hh
        subst he
        have B1 := Lib.hid b1
        clear b1
        go_wp2_with fail
        refine (HN.out _).mono ?_
        intro e w2 hh
        obtain ⟨u2, he, hu2, b2⟩ := hh
        subst he
        have B2 := Lib.hid (below_size B1.out b2)
        have HU2 := Lib.hid hu2
        obtain ⟨A2, c2, rfl, _, _, _⟩ := hu2
        clear b2
        go_wp2_with fail
        refine (HP.out _ _ (HH.out.kept B2.out) HU2.out).mono ?_
        intro e w3 hh
        obtain ⟨he, v3, h3, s3⟩ := hh
        subst he
        have H3 := Lib.hid h3
        have S3 := Lib.hid s3
        clear h3 s3
        go_wp2
        go_end0
        exact ⟨rfl, v3, by rw [E.out]; exact H3.out, (OutStep.below B2.out).trans S3.out⟩
      · have hq2 : n < 65536 := by simpa using hlt
        have hq : ((n : Int) / 65536 != 0) = false := by have h0 : (n : Int) / 65536 = 0 := (by omega); simp [h0]
        clear hz
        go_enter Tryz.func60, Tryz.ntmps60
        go_wp2_with fail
        refine (HZ.out _).mono ?_
        intro e w1 hh
        obtain ⟨he, b1⟩ := hh
        subst he
        have B1 := Lib.hid b1
        clear b1
        go_wp2_with fail
        refine (HN.out _).mono ?_
        intro e w2 hh
        obtain ⟨u2, he, hu2, b2⟩ := hh
        subst he
        have B2 := Lib.hid (below_size B1.out b2)
        have HU2 := Lib.hid hu2
        obtain ⟨A2, c2, rfl, _, _, _⟩ := hu2
        clear b2
        go_wp2_with fail
        refine (HP.out _ _ (HH.out.kept B2.out) HU2.out).mono ?_
        intro e w3 hh
        obtain ⟨he, v3, h3, s3⟩ := hh
        subst he
        have H3 := Lib.hid h3
        have S3 := Lib.hid s3
        clear h3 s3
        go_wp2
        go_end0
        exact ⟨rfl, v3, by rw [E.out]; exact H3.out, (OutStep.below B2.out).trans S3.out⟩
      · have hq2 : n < 4294967296 := by simpa using hlt
        have hq : ((n : Int) / 4294967296 != 0) = false := by have h0 : (n : Int) / 4294967296 = 0 := (by omega); simp [h0]
        clear hz
        go_enter Tryz.func60, Tryz.ntmps60
        go_wp2_with fail
        refine (HZ.out _).mono ?_
        intro e w1 hh
        obtain ⟨he, b1⟩ := hh
        subst he
        have B1 := Lib.hid b1
        clear b1
        go_wp2_with fail
        refine (HN.out _).mono ?_
        intro e w2 hh
        obtain ⟨u2, he, hu2, b2⟩ := hh
        subst he
        have B2 := Lib.hid (below_size B1.out b2)
        have HU2 := Lib.hid hu2
        obtain ⟨A2, c2, rfl, _, _, _⟩ := hu2
        clear b2
        go_wp2_with fail
        refine (HP.out _ _ (HH.out.kept B2.out) HU2.out).mono ?_
        intro e w3 hh
        obtain ⟨he, v3, h3, s3⟩ := hh
        subst he
        have H3 := Lib.hid h3
        have S3 := Lib.hid s3
        clear h3 s3
        go_wp2
        go_end0
        exact ⟨rfl, v3, by rw [E.out]; exact H3.out, (OutStep.below B2.out).trans S3.out⟩
      · have hq2 : n < 18446744073709551616 := by simpa using hlt
        clear hz
        go_enter Tryz.func60, Tryz.ntmps60
        go_wp2_with fail
        refine (HZ.out _).mono ?_
        intro e w1 hh
        obtain ⟨he, b1⟩ := hh
        subst he
        have B1 := Lib.hid b1
        clear b1
        go_wp2_with fail
        refine (HN.out _).mono ?_
        intro e w2 hh
        obtain ⟨u2, he, hu2, b2⟩ := hh
        subst he
        have B2 := Lib.hid (below_size B1.out b2)
        have HU2 := Lib.hid hu2
        obtain ⟨A2, c2, rfl, _, _, _⟩ := hu2
        clear b2
        go_wp2_with fail
        refine (HP.out _ _ (HH.out.kept B2.out) HU2.out).mono ?_
        intro e w3 hh
        obtain ⟨he, v3, h3, s3⟩ := hh
        subst he
        have H3 := Lib.hid h3
        have S3 := Lib.hid s3
        clear h3 s3
        go_wp2
        go_end0
        exact ⟨rfl, v3, by rw [E.out]; exact H3.out, (OutStep.below B2.out).trans S3.out⟩
    · have E : Hid (s.wNum n z = s.fail 51) := by show _ = _; unfold St.wNum; rw [if_neg (fun h => hlt h.2)]
      rw [hz] at HZ
      rcases inNum_shape z hz with rfl | rfl | rfl | rfl
      · have hq2 : ¬ n < 256 := by simpa using hlt
        have hq : ((n : Int) / 256 != 0) = true := by have h0 : ¬ (n : Int) / 256 = 0 := (by omega); simp [h0]
        clear hz
        go_enter Tryz.func60, Tryz.ntmps60
        go_wp2_with fail
        refine (HZ.out _).mono ?_
        intro e w1 hh
        obtain ⟨he, b1⟩ := hh
        subst he
        have B1 := Lib.hid b1
        clear b1
        go_wp2_with fail
        refine (HX.out _ (HH.out.kept B1.out)).mono ?_
        intro e w2 hh
        obtain ⟨he, v2, h2, s2⟩ := hh
        subst he
        have H2 := Lib.hid h2
        have S2 := Lib.hid s2
        clear h2 s2
        go_wp2
        refine bodyPost_ret (results_none rfl _ _ _) rfl ?_
        exact ⟨rfl, v2, by rw [E.out]; exact H2.out, (OutStep.below B1.out).trans S2.out⟩
      · have hq2 : ¬ n < 65536 := by simpa using hlt
        have hq : ((n : Int) / 65536 != 0) = true := by have h0 : ¬ (n : Int) / 65536 = 0 := (by omega); simp [h0]
        clear hz
        go_enter Tryz.func60, Tryz.ntmps60
        go_wp2_with fail
        refine (HZ.out _).mono ?_
        intro e w1 hh
        obtain ⟨he, b1⟩ := hh
        subst he
        have B1 := Lib.hid b1
        clear b1
        go_wp2_with fail
        refine (HX.out _ (HH.out.kept B1.out)).mono ?_
        intro e w2 hh
        obtain ⟨he, v2, h2, s2⟩ := hh
        subst he
        have H2 := Lib.hid h2
        have S2 := Lib.hid s2
        clear h2 s2
        go_wp2
        refine bodyPost_ret (results_none rfl _ _ _) rfl ?_
        exact ⟨rfl, v2, by rw [E.out]; exact H2.out, (OutStep.below B1.out).trans S2.out⟩
      · have hq2 : ¬ n < 4294967296 := by simpa using hlt
        have hq : ((n : Int) / 4294967296 != 0) = true := by have h0 : ¬ (n : Int) / 4294967296 = 0 := (by omega); simp [h0]
        clear hz
        go_enter Tryz.func60, Tryz.ntmps60
        go_wp2_with fail
        refine (HZ.out _).mono ?_
        intro e w1 hh
        obtain ⟨he, b1⟩ := hh
        subst he
        have B1 := Lib.hid b1
        clear b1
        go_wp2_with fail
        refine (HX.out _ (HH.out.kept B1.out)).mono ?_
        intro e w2 hh
        obtain ⟨he, v2, h2, s2⟩ := hh
        subst he
        have H2 := Lib.hid h2
        have S2 := Lib.hid s2
        clear h2 s2
        go_wp2
        refine bodyPost_ret (results_none rfl _ _ _) rfl ?_
        exact ⟨rfl, v2, by rw [E.out]; exact H2.out, (OutStep.below B1.out).trans S2.out⟩
      · exact absurd hn (by simpa using hlt)
  · have E : Hid (s.wNum n z = s.fail 51) := by show _ = _; unfold St.wNum; rw [if_neg (fun h => hz h.1)]
    have hz : isNum z = false := by simpa using hz
    rw [hz] at HZ
    clear hz
    go_enter Tryz.func60, Tryz.ntmps60
    go_wp2_with fail
    refine (HZ.out _).mono ?_
    intro e w1 hh
    obtain ⟨he, b1⟩ := hh
    subst he
    have B1 := Lib.hid b1
    clear b1
    go_wp2_with fail
    refine (HX.out _ (HH.out.kept B1.out)).mono ?_
    intro e w2 hh
    obtain ⟨he, v2, h2, s2⟩ := hh
    subst he
    have H2 := Lib.hid h2
    have S2 := Lib.hid s2
    clear h2 s2
    go_wp2
    refine bodyPost_ret (results_none rfl _ _ _) rfl ?_
    exact ⟨rfl, v2, by rw [E.out]; exact H2.out, (OutStep.below B1.out).trans S2.out⟩
end Go.Proofs.YtpgbicbjlhkonaaGreatDoor
end
