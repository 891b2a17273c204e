/-
  Texts that belong together, merged: CodR, CodS, CodV, CodQ. Conditions: as each theorem names them.
-/
import Derived.Test.YtmhhjdiilmgmoaaQFrmAF
import Derived.Deep.Onto
import Derived.Test.YtmhhjdiilmgmoaaQFrmAE
import Derived.Test.YtmhhjdiilmgmoaaQFrmAC
section
namespace Go.Proofs.Ytmhhjdiilmgmoaa
open Go.RowKit
set_option linter.unusedVariables false
set_option maxRecDepth 20000

set_option maxHeartbeats 400000 in
theorem refHigh_own (w : World) (n : Nat) (hn : n < 18446744073709551616) (s : Int) (hs : -9223372036854775808 ≤ s ∧ s ≤ 9223372036854775807) :
    Calls Try.prog 49 #[.int .u64 (n : Int), .int .i64 s] w fun e w' => ∃ v, e = .returned v ∧ OwnB w' w.heap.size 5 v (highI n s) ∧ Below w.heap.size w w' := by
  unfold highI
  have hlen := lowI_length n s
  have hc := fun w => refLow_any w n hn s hs
  generalize lowI n s = l at hlen hc ⊢
  have HC := Lib.hid hc
  clear hc
  go_enter Try.func49, Try.ntmps49
  go_wp2_with (go_at_call 64; refine (HC.out _).mono ?_; rintro e w1 ⟨_, rfl, ⟨A, c, rfl, h1, h2, h3⟩, hb0⟩)
  have HB0 := Lib.hid hb0
  unfold maxLen at h2
  clear hb0
  go_loopw [6, 7] (fun v i wr => ∃ k : Nat, k ≤ l.length ∧ i = .int .i64 ((l.length : Int) - 1 - k) ∧ OwnB wr w1.heap.size 5 v (l.reverse.take k) ∧ Below w1.heap.size w1 wr) (fun _ i _ => (intOf i + 1).toNat)
  case atStart => exact ⟨0, Nat.zero_le _, by simp, OwnB.nil _ _ _, Below.refl _ _⟩
  case round =>
    obtain ⟨k, hk, rfl, hown, hb⟩ := hrel
    have HO := Lib.hid hown
    have HB := Lib.hid hb
    have hsz := hb.size
    clear hown hb
    by_cases hlt : k < l.length
    · obtain ⟨b0, o0, rfl, hc⟩ := h3 (by omega)
      have hcell : wr.cell? ⟨b0, o0 + (l.length - 1 - k), none⟩ = some (.int .u8 ((l[l.length - 1 - k]'(by omega)).toNat : Int)) :=
        (HB.out.cell (p := ⟨b0, o0 + (l.length - 1 - k), none⟩) (World.block_lt_of_cell? w1 _ (hc (l.length - 1 - k) (by omega)))).trans (hc (l.length - 1 - k) (by omega))
      have htk : l.reverse.take (k + 1) = l.reverse.take k ++ [l[l.length - 1 - k]'(by omega)] := by
        rw [List.take_succ_eq_append_getElem (by simpa using hlt), List.getElem_reverse]
      have HT := Lib.hid htk
      clear htk hc h3
      go_wp2_with (at_builtin; refine wpList_appB _ rfl (.tmp 18) (.tmp 23) 25 rfl w1 5 Try.infoB Try.underlying25 _ _ _ [l[l.length - 1 - k]'(by omega)] rfl rfl (HO.out.alloc _) (Bs.lit1 _ _ _ _ rfl) (by simp; omega) (HB.out.alloc hsz _) ?_; intro v2 w2 hown2 hb2)
      go_roundw
      case rel => exact ⟨k + 1, by omega, by go_num, by rw [HT.out]; exact hown2, hb2⟩
      case measure => simp [intOf]; omega
    · have hks : k = l.length := by omega
      subst hks
      have HO2 : Hid (OwnB wr w1.heap.size 5 u6 l.reverse) := by
        have := HO.out; rwa [List.take_of_length_le (by simp)] at this
      go_wp2
      go_ret
      exact ⟨_, rfl, World.ownsRow.mono HO2.out HB0.out.size, below_size HB0.out HB.out⟩

/-- The document's Out at r. -/
def RoAt (w : World) (r : Nat) (s : St) (S : Nat → Prop) : Prop := ∃ v B, RowAt w r 53 #[v, .int .i64 s.e] ∧ Bs w v B ∧ (s.e = 0 → B = s.l) ∧ U8At w v ∧ ∀ k, v.ownBlock = some k → ¬ S k
theorem RoAt.kept {w w' : World} {r : Nat} {s : St} {S : Nat → Prop} (h : RoAt w r s S) (hb : Below w.heap.size w w') : RoAt w' r s S := by
  obtain ⟨v, B, h1, h2, h3, h4, h5⟩ := h
  exact ⟨v, B, h1.kept hb, h2.below hb, h3, h4.below hb, h5⟩
theorem RoAt.lt {w : World} {r : Nat} {s : St} {S : Nat → Prop} (h : RoAt w r s S) : r < w.heap.size := by obtain ⟨v, B, h1, _⟩ := h; exact h1.lt
theorem RoAt.bs {w w' : World} {r : Nat} {s : St} {S : Nat → Prop} (h : RoAt w r s S) {u : Value} {l : List UInt8} (hb : Bs w u l) (hg : w.grownBy w' (some r)) : Bs w' u l := by
  obtain ⟨v, B, h1, h2, _⟩ := h
  exact hb.turn h1 (no_u8 h2 _) hg

set_option maxHeartbeats 1000000 in
theorem refSize_any (w : World) (z : Int) : Calls Try.prog 47 #[.int .i64 z] w fun e w' => e = .returned (.bool (isNum z)) ∧ w = w' := by
  have E : Hid (isNum z = (decide (z = 1) || (decide (z = 2) || (decide (z = 4) || decide (z = 8))))) := by show _ = _; simp [isNum, Bool.or_assoc]; rfl
  rw [E.out]
  clear E
  by_cases h1 : z = 1
  · subst h1
    go_enter Try.func47, Try.ntmps47
    go_wp2
    go_ret
    exact ⟨rfl, rfl⟩
  · by_cases h2 : z = 2
    · subst h2
      go_enter Try.func47, Try.ntmps47
      go_wp2
      go_ret
      exact ⟨rfl, rfl⟩
    · by_cases h4 : z = 4
      · subst h4
        go_enter Try.func47, Try.ntmps47
        go_wp2
        go_ret
        exact ⟨rfl, rfl⟩
      · have d1 : decide (z = 1) = false := by simp [h1]
        have d2 : decide (z = 2) = false := by simp [h2]
        have d4 : decide (z = 4) = false := by simp [h4]
        by_cases h8 : z = 8
        · subst h8
          go_enter Try.func47, Try.ntmps47
          go_wp2
          go_ret
          exact ⟨rfl, rfl⟩
        · have d8 : decide (z = 8) = false := by simp [h8]
          go_enter Try.func47, Try.ntmps47
          go_wp2
          go_ret
          exact ⟨by simp [h1, h2, h4, h8], rfl⟩

set_option maxHeartbeats 1000000 in
theorem roAdd_err (w : World) (S : Nat → Prop) (r : Nat) (s : St) (x : Int) (hx : x ≠ 0) (h : RoAt w r s S) :
    Calls Try.prog 50 #[.pointer (some ⟨r, 0, none⟩), .int .i64 x, .slice none 0 0] w fun e w' => e = .returned (.tuple #[]) ∧ RoAt w' r (s.fail x) S ∧ w.grownBy w' (some r) := by
  obtain ⟨l, y⟩ := s
  obtain ⟨v, B, hr, hv, hB, hu8, hS5⟩ := h
  have HU8 := Lib.hid hu8
  have HS5 := Lib.hid hS5
  clear hu8 hS5
  have c0 : w.cell? ⟨r, 0, none⟩ = some v := hr.cell 0
  have c1 : w.cell? ⟨r, 1, none⟩ = some (.int .i64 y) := hr.cell 1
  have z1 : w.frozen? ⟨r, 1, none⟩ = false := hr.frozen 1
  have HR := Lib.hid hr
  have HV := Lib.hid hv
  have HB := Lib.hid hB
  obtain ⟨A, c, rfl, _, _, _⟩ := hv
  have hdx : decide (x = 0) = false := by simp [hx]
  clear hr hB
  by_cases hy : y = 0
  · subst hy
    go_enter Try.func50, Try.ntmps50
    go_wp2
    refine bodyPost_ret (results_none rfl _ _ _) rfl ?_
    refine ⟨rfl, ?_, grown_setCell _ _ _ _⟩
    exact ⟨_, B, HR.out.put 1 (.int .i64 x), HV.out.turn HR.out (no_u8 HV.out 0) (grown_setCell _ _ _ _), fun e => absurd e hx, HU8.out.turn HR.out (by decide) (grown_setCell _ _ _ _), HS5.out⟩
  · have hd : decide (y = 0) = false := by simp [hy]
    go_enter Try.func50, Try.ntmps50
    go_wp2
    refine bodyPost_ret (results_none rfl _ _ _) rfl ?_
    refine ⟨rfl, ?_, World.grownBy.refl _ _⟩
    unfold St.fail
    rw [if_neg hy]
    exact ⟨_, B, HR.out, HV.out, HB.out, HU8.out, HS5.out⟩

set_option maxHeartbeats 1000000 in
theorem roAdd_ok (w : World) (S : Nat → Prop) (r : Nat) (s : St) (u : Value) (b : List UInt8) (h : RoAt w r s S) (hu : Bs w u b) (hl : s.l.length + b.length ≤ 1000000000) (hS : ∀ k, S k → k < w.heap.size) :
   
    Calls Try.prog 50 #[.pointer (some ⟨r, 0, none⟩), .int .i64 0, u] w fun e w' => e = .returned (.tuple #[]) ∧ RoAt w' r (s.put b) S ∧ w.grownBy w' (some r) := by
  have hrl := h.lt
  have HS := Lib.hid hS
  clear hS
  obtain ⟨l, y⟩ := s
  obtain ⟨v, B, hr, hv, hB, hu8, hS5⟩ := h
  have HU8 := Lib.hid hu8
  have HS5 := Lib.hid hS5
  clear hu8 hS5
  have c0 : w.cell? ⟨r, 0, none⟩ = some v := hr.cell 0
  have c1 : w.cell? ⟨r, 1, none⟩ = some (.int .i64 y) := hr.cell 1
  have HR := Lib.hid hr
  have HV := Lib.hid hv
  have HB := Lib.hid hB
  have HU := Lib.hid hu
  obtain ⟨A, c, rfl, _, _, _⟩ := hv
  obtain ⟨A2, c2, rfl, _, _, _⟩ := hu
  simp only at hl hB HR HB
  clear hr
  by_cases hy : y = 0
  · subst hy
    have hBl : B = l := hB rfl
    subst hBl
    clear hB
    have E : Hid (St.put ⟨B, 0⟩ b = ⟨B ++ b, 0⟩) := by show _ = _; unfold St.put; rw [if_pos rfl]
    obtain ⟨m, hm⟩ : ∃ m, m = B ++ b := ⟨_, rfl⟩
    have HM := Lib.hid hm
    rw [← hm] at E
    have AL := alloc_below w (.cells #[] 5)
    have HAL := Lib.hid AL
    have O1 : Hid (OwnB (w.alloc (.cells #[] 5)) w.heap.size 5 (.slice (some ⟨w.heap.size, 0, none⟩) 0 0) []) := World.ownsRow_lit (base := w.heap.size) (e := 5) (size := 1) w #[] 0 (Nat.le_refl _) (by simp [maxLen]) rfl
    clear hm AL
    go_enter Try.func50, Try.ntmps50
    go_wp2_with (first
      | (at_builtin; refine wpList_appB _ (o := ⟨some 23, _, _, _, _, _⟩) rfl (.tmp 18) (.tmp 22) 25 rfl w 5 Try.infoBy Try.underlying25 _ _ [] B rfl rfl O1.out (HV.out.below HAL.out) (by simp; omega) HAL.out ?_; intro v6 w6 own6 b6; have O6 : Hid (OwnB w6 w.heap.size 5 v6 B) := own6; have B6 := Lib.hid b6; obtain ⟨A6, c6, rfl, _, _⟩ := O6.out.shape; clear own6 b6)
      | (at_builtin; refine wpList_appB _ (o := ⟨some 25, _, _, _, _, _⟩) rfl (.tmp 23) (.tmp 24) 25 rfl w 5 Try.infoBy Try.underlying25 _ _ B b rfl rfl O6.out (HU.out.below B6.out) (by omega) B6.out ?_; intro v7 w7 own7 b7; have O7 : Hid (OwnB w7 w.heap.size 5 v7 m) := HM.out ▸ own7; have B7 := Lib.hid b7; have R7 := Lib.hid (HR.out.kept b7); have z0 := R7.out.frozen 0; have d0 : w7.cell? ⟨r, 0, none⟩ = some (.slice A B.length c) := R7.out.cell 0; obtain ⟨A7, c7, rfl, _, _⟩ := O7.out.shape; clear own7 b7))
    go_end0
    rw [E.out]
    have hg := grown_setCell w7 r 0 (.slice A7 m.length c7)
    exact ⟨rfl, ⟨_, m, R7.out.fst _, O7.out.bs.turn R7.out (no_u8 (HV.out.below B7.out) 0) hg, fun _ => rfl, (U8At.of O7.out).turn R7.out (by decide) hg, fun k hk hs => by have := (World.ownsRow.lt O7.out k hk).1; have := HS.out k hs; omega⟩, (grown_any B7.out (some r)).trans hg⟩
  · have hd : decide (y = 0) = false := by simp [hy]
    go_enter Try.func50, Try.ntmps50
    go_wp2
    refine bodyPost_ret (results_none rfl _ _ _) rfl ?_
    refine ⟨rfl, ?_, World.grownBy.refl _ _⟩
    unfold St.put
    rw [if_neg hy]
    exact ⟨_, B, HR.out, HV.out, HB.out, HU8.out, HS5.out⟩

theorem highI_num (n : Nat) (z : Int) (hz : isNum z = true) : highI n z = (lowB n z.toNat).reverse ∧ ofHighB ((highI n z).take 8) = n % 256 ^ z.toNat ∧ (highI n z).length ≤ 8 := by
  have h8 := inNum_shape z hz
  have e : highI n z = (lowB n z.toNat).reverse := by unfold highI lowI; rw [if_pos (by omega)]
  have hl : (lowB n z.toNat).reverse.length = z.toNat := high_length n _
  refine ⟨e, ?_, by rw [e, hl]; omega⟩
  rw [e, List.take_of_length_le (by rw [hl]; omega)]
  have e2 : ofHighB (lowB n z.toNat).reverse = ofLowB (lowB n z.toNat).reverse.reverse := rfl
  rw [e2, List.reverse_reverse, ofLowB_lowB]

set_option maxHeartbeats 1000000 in
theorem roNumber_any (w : World) (S : Nat → Prop) (r : Nat) (s : St) (n : Nat) (z : Int) (hn : n < 18446744073709551616) (h : RoAt w r s S) (hl : s.l.length ≤ 900000000) (hS : ∀ k, S k → k < w.heap.size) :
   
    Calls Try.prog 29 #[.pointer (some ⟨r, 0, none⟩), .int .u64 (n : Int), .int .i64 z] w fun e w' => e = .returned (.tuple #[]) ∧ RoAt w' r (s.wNum n z) S ∧ w.grownBy w' (some r) := by
  have HH := Lib.hid h
  have HS := Lib.hid hS
  clear hS
  have HZ : Hid (∀ w, Calls Try.prog 47 #[.int .i64 z] w fun e w' => e = .returned (.bool (isNum z)) ∧ w = w') := fun w => refSize_any w z
  have HX := Lib.hid (fun w h => roAdd_err w S r s 51 (by decide) h)
  clear h
  by_cases hz : isNum z = true
  · obtain ⟨e1, e2, e3⟩ := highI_num n z hz
    have h8 := inNum_shape z hz
    have HN : Hid (∀ w, Calls Try.prog 49 #[.int .u64 (n : Int), .int .i64 z] w (RetBs w (highI n z))) := fun w => refHigh_any w n hn z (by omega)
    obtain ⟨hd, hhd⟩ : ∃ hd, hd = highI n z := ⟨_, rfl⟩
    rw [← hhd] at HN e1 e2 e3
    have HP := Lib.hid (fun w u h hu hs => roAdd_ok w S r s u hd h hu (by omega) hs)
    obtain ⟨M, hM⟩ : ∃ M, M = ofHighB (hd.take 8) := ⟨_, rfl⟩
    have HO : Hid (∀ w v, Bs w v hd → Calls Try.prog 48 #[v] w fun e w' => e = .returned (.int .u64 (M : Int)) ∧ w = w') := fun w v h => by rw [hM]; exact refOfHigh_any w v hd h
    rw [← hM] at e2
    by_cases hlt : n < 256 ^ z.toNat
    · have E : Hid (s.wNum n z = s.put hd) := by show _ = _; unfold St.wNum; rw [if_pos ⟨hz, hlt⟩, e1]
      rw [Nat.mod_eq_of_lt hlt] at e2
      have hdq : decide ((M : Int) = (n : Int)) = true := by simp [e2]
      rw [hz] at HZ
      subst e2
      clear hM hhd e1 hz hlt h8
      go_enter Try.func29, Try.ntmps29
      go_wp2_with fail
      refine (HZ.out _).mono ?_
      intro e w1 hh
      obtain ⟨he, hw⟩ := hh
      subst he hw
      go_wp2_with fail
      refine (HN.out _).mono ?_
      intro e w1 hh
      obtain ⟨u1, he, hu1, b1⟩ := hh
      subst he
      have U1 := Lib.hid hu1
      have B1 := Lib.hid b1
      obtain ⟨A1, c1, rfl, _, _, _⟩ := hu1
      clear b1
      go_wp2_with fail
      refine (HO.out _ _ U1.out).mono ?_
      intro e w1' hh
      obtain ⟨he, hw⟩ := hh
      subst he hw
      go_wp2_with fail
      refine (HN.out _).mono ?_
      intro e w2 hh
      obtain ⟨u2, he, hu2, b2⟩ := hh
      subst he
      have U2 := Lib.hid hu2
      have B2 := Lib.hid (below_size B1.out b2)
      obtain ⟨A2, c2, rfl, _, _, _⟩ := hu2
      clear b2
      go_wp2_with fail
      refine (HP.out _ _ (HH.out.kept B2.out) U2.out (fun k hk => Nat.lt_of_lt_of_le (HS.out k hk) B2.out.size)).mono ?_
      intro e w3 hh
      obtain ⟨he, h3, g3⟩ := hh
      subst he
      have H3 := Lib.hid h3
      have G3 := Lib.hid g3
      clear h3 g3
      go_wp2
      go_end0
      exact ⟨rfl, by rw [E.out]; exact H3.out, (grown_any B2.out (some r)).trans G3.out⟩
    · have E : Hid (s.wNum n z = s.fail 51) := by show _ = _; unfold St.wNum; rw [if_neg (fun h => hlt h.2)]
      have hne : M ≠ n := by
        have := Nat.mod_lt n (show 256 ^ z.toNat > 0 from Nat.pos_of_ne_zero (by simp))
        omega
      have hdq : decide ((M : Int) = (n : Int)) = false := by simp; omega
      rw [hz] at HZ
      clear hM hhd e1 hz hlt h8 e2
      go_enter Try.func29, Try.ntmps29
      go_wp2_with fail
      refine (HZ.out _).mono ?_
      intro e w1 hh
      obtain ⟨he, hw⟩ := hh
      subst he hw
      go_wp2_with fail
      refine (HN.out _).mono ?_
      intro e w1 hh
      obtain ⟨u1, he, hu1, b1⟩ := hh
      subst he
      have U1 := Lib.hid hu1
      have B1 := Lib.hid b1
      obtain ⟨A1, c1, rfl, _, _, _⟩ := hu1
      clear b1
      go_wp2_with fail
      refine (HO.out _ _ U1.out).mono ?_
      intro e w1' hh
      obtain ⟨he, hw⟩ := hh
      subst he hw
      go_wp2_with fail
      refine (HX.out _ (HH.out.kept B1.out)).mono ?_
      intro e w3 hh
      obtain ⟨he, h3, g3⟩ := hh
      subst he
      have H3 := Lib.hid h3
      have G3 := Lib.hid g3
      clear h3 g3
      go_wp2
      refine bodyPost_ret (results_none rfl _ _ _) rfl ?_
      exact ⟨rfl, by rw [E.out]; exact H3.out, (grown_any B1.out (some r)).trans G3.out⟩
  · have E : Hid (s.wNum n z = s.fail 51) := by show _ = _; unfold St.wNum; rw [if_neg (fun h => hz h.1)]
    have hz : isNum z = false := by simpa using hz
    rw [hz] at HZ
    clear hz
    go_enter Try.func29, Try.ntmps29
    go_wp2_with fail
    refine (HZ.out _).mono ?_
    intro e w1 hh
    obtain ⟨he, hw⟩ := hh
    subst he hw
    go_wp2_with fail
    refine (HX.out _ HH.out).mono ?_
    intro e w2 hh
    obtain ⟨he, h2, g2⟩ := hh
    subst he
    have H2 := Lib.hid h2
    have G2 := Lib.hid g2
    clear h2 g2
    go_wp2
    refine bodyPost_ret (results_none rfl _ _ _) rfl ?_
    exact ⟨rfl, by rw [E.out]; exact H2.out, G2.out⟩

theorem highI_two (n : Nat) : highI n 2 = (lowB n 2).reverse := by
  unfold highI lowI
  rw [if_pos (by omega)]
  rfl
set_option maxHeartbeats 1000000 in
theorem roBytes_any (w : World) (S : Nat → Prop) (r : Nat) (s : St) (u : Value) (b : List UInt8) (h : RoAt w r s S) (hu : Bs w u b) (hl : s.l.length ≤ 900000000) (hS : ∀ k, S k → k < w.heap.size) :
   
    Calls Try.prog 31 #[.pointer (some ⟨r, 0, none⟩), u] w fun e w' => e = .returned (.tuple #[]) ∧ RoAt w' r (s.wByt b) S ∧ w.grownBy w' (some r) := by
  have HH := Lib.hid h
  have HS := Lib.hid hS
  clear hS
  have HU := Lib.hid hu
  obtain ⟨A, c, rfl, h1, h2, _⟩ := hu
  unfold maxLen at h2
  clear h
  by_cases hb : b.length > 4000
  · have hb2 : (4000 : Int) < (b.length : Int) := by omega
    have E : Hid (s.wByt b = s.fail 2) := by show _ = _; unfold St.wByt; rw [if_pos hb]
    have HX := Lib.hid (fun w h => roAdd_err w S r s 2 (by decide) h)
    go_enter Try.func31, Try.ntmps31
    go_wp2_with fail
    refine (HX.out _ HH.out).mono ?_
    intro e w2 hh
    obtain ⟨he, h2, g2⟩ := hh
    subst he
    have H2 := Lib.hid h2
    have G2 := Lib.hid g2
    clear h2 g2
    go_wp2
    refine bodyPost_ret (results_none rfl _ _ _) rfl ?_
    exact ⟨rfl, by rw [E.out]; exact H2.out, G2.out⟩
  · have hb2 : ¬ ((4000 : Int) < (b.length : Int)) := by omega
    have hw : IntKind.u64.wrap (b.length : Int) = (b.length : Int) := by rw [IntKind.wrap_u64]; omega
    have E : Hid (s.wByt b = s.put ((lowB b.length 2).reverse ++ b)) := by show _ = _; unfold St.wByt; rw [if_neg hb, St.put_put]
    have HN : Hid (∀ w, Calls Try.prog 49 #[.int .u64 (b.length : Int), .int .i64 2] w fun e w' => ∃ v, e = .returned v ∧ OwnB w' w.heap.size 5 v (lowB b.length 2).reverse ∧ Below w.heap.size w w') := fun w => by
      have h := refHigh_own w b.length (by omega) 2 (by omega)
      rwa [highI_two] at h
    have LN : Hid ((lowB b.length 2).reverse.length = 2) := high_length _ _
    obtain ⟨hd, hhd⟩ : ∃ hd, hd = (lowB b.length 2).reverse := ⟨_, rfl⟩
    rw [← hhd] at E HN LN
    obtain ⟨m, hm⟩ : ∃ m, m = hd ++ b := ⟨_, rfl⟩
    have HM := Lib.hid hm
    have hml : m.length ≤ 4002 := by rw [hm, List.length_append, LN.out]; omega
    rw [← hm] at E
    have HP := Lib.hid (fun w u h hu hs => roAdd_ok w S r s u m h hu (by omega) hs)
    clear hhd hm
    go_enter Try.func31, Try.ntmps31
    go_wp2_with fail
    refine (HN.out _).mono ?_
    intro e w1 hh
    obtain ⟨u1, he, ho1, b1⟩ := hh
    subst he
    have O1 := Lib.hid ho1
    have B1 := Lib.hid b1
    obtain ⟨A1, c1, rfl, _, _⟩ := ho1.shape
    clear ho1 b1
    go_wp2_with (at_builtin; refine wpList_appB _ (o := ⟨some 15, _, _, _, _, _⟩) rfl (.tmp 13) (.tmp 14) 25 rfl w 5 Try.infoBy Try.underlying25 _ _ hd b rfl rfl O1.out (HU.out.below B1.out) (by have := LN.out; omega) B1.out ?_; intro v7 w7 own7 b7; have O7 : Hid (OwnB w7 w.heap.size 5 v7 m) := HM.out ▸ own7; have B7 := Lib.hid b7; obtain ⟨A7, c7, rfl, _, _⟩ := O7.out.shape; clear own7 b7)
    refine (HP.out _ _ (HH.out.kept B7.out) O7.out.bs (fun k hk => Nat.lt_of_lt_of_le (HS.out k hk) B7.out.size)).mono ?_
    intro e w3 hh
    obtain ⟨he, h3, g3⟩ := hh
    subst he
    have H3 := Lib.hid h3
    have G3 := Lib.hid g3
    clear h3 g3
    go_wp2
    go_end0
    exact ⟨rfl, by rw [E.out]; exact H3.out, (grown_any B7.out (some r)).trans G3.out⟩
end Go.Proofs.Ytmhhjdiilmgmoaa
end
section
namespace Go.Proofs.Ytmhhjdiilmgmoaa
open Go.RowKit
set_option linter.unusedVariables false
set_option maxRecDepth 20000

set_option maxHeartbeats 2000000 in
theorem roKeys_any (w : World) (S : Nat → Prop) (r : Nat) (s : St) (u : Value) (ls : List (List UInt8)) (h : RoAt w r s S) (hu : Kl w u ls) (hl : s.l.length ≤ 900000000) (hS : ∀ k, S k → k < w.heap.size) :
   
    Calls Try.prog 30 #[.pointer (some ⟨r, 0, none⟩), u] w fun e w' => e = .returned (.tuple #[]) ∧ RoAt w' r (s.wKey ls) S ∧ w.grownBy w' (some r) := by
  have HH := Lib.hid h
  have HS := Lib.hid hS
  clear hS
  obtain ⟨A, c, rfl, h1, h2, h4, h3⟩ := hu
  unfold maxLen at h2
  have H32 := Lib.hid h4
  clear h h4
  by_cases hb : ls.length > 100
  · have hb2 : (100 : Int) < (ls.length : Int) := by omega
    have E : Hid (s.wKey ls = s.fail 2) := by show _ = _; unfold St.wKey; rw [if_pos hb]
    have HX := Lib.hid (fun w h => roAdd_err w S r s 2 (by decide) h)
    clear h3
    go_enter Try.func30, Try.ntmps30
    go_wp2_with fail
    refine (HX.out _ HH.out).mono ?_
    intro e w2 hh
    obtain ⟨he, h2, g2⟩ := hh
    subst he
    have H2 := Lib.hid h2
    have G2 := Lib.hid g2
    clear h2 g2
    go_wp2
    refine bodyPost_ret (results_none rfl _ _ _) rfl ?_
    exact ⟨rfl, by rw [E.out]; exact H2.out, G2.out⟩
  · have hb2 : ¬ ((100 : Int) < (ls.length : Int)) := by omega
    have hw : IntKind.u64.wrap (ls.length : Int) = (ls.length : Int) := by rw [IntKind.wrap_u64]; omega
    have E : Hid (s.wKey ls = s.put ((lowB ls.length 2).reverse ++ ls.flatten)) := by show _ = _; unfold St.wKey; rw [if_neg hb, St.put_put]
    have HN : Hid (∀ w, Calls Try.prog 49 #[.int .u64 (ls.length : Int), .int .i64 2] w fun e w' => ∃ v, e = .returned v ∧ OwnB w' w.heap.size 5 v (lowB ls.length 2).reverse ∧ Below w.heap.size w w') := fun w => by
      have h := refHigh_own w ls.length (by omega) 2 (by omega)
      rwa [highI_two] at h
    have LN : Hid ((lowB ls.length 2).reverse.length = 2) := high_length _ _
    obtain ⟨hd, hhd⟩ : ∃ hd, hd = (lowB ls.length 2).reverse := ⟨_, rfl⟩
    rw [← hhd] at E HN LN
    have LT : Hid (∀ j, j ≤ ls.length → (hd ++ (ls.take j).flatten).length = 2 + j * 32) := fun j hj => by
      rw [List.length_append, LN.out, flat_len32 _ (fun l hl => H32.out l (List.mem_of_mem_take hl)), List.length_take_of_le hj]
    have HBY := Lib.hid (fun w l hl => refBytes_any w l hl)
    clear hhd
    go_enter Try.func30, Try.ntmps30
    go_wp2_with fail
    refine (HN.out _).mono ?_
    intro e w1 hh
    obtain ⟨u1, he, ho1, b1⟩ := hh
    subst he
    have O1 : Hid (OwnB w1 w.heap.size 5 u1 (hd ++ (ls.take 0).flatten)) := by show OwnB _ _ _ _ _; rw [List.take_zero, List.flatten_nil, List.append_nil]; exact ho1
    have B1 := Lib.hid b1
    obtain ⟨A1, c1, rfl, _, _⟩ := ho1.shape
    clear ho1 b1 HN
    go_wp2_with fail
    go_loopw [4, 5] (fun v i wr => ∃ j : Nat, j ≤ ls.length ∧ i = .int .i64 (j : Int) ∧ OwnB wr w.heap.size 5 v (hd ++ (ls.take j).flatten) ∧ Below w.heap.size w wr) (fun _ i _ => ls.length - (intOf i).toNat)
    case atStart => exact ⟨0, by omega, rfl, O1.out, B1.out⟩
    case round =>
      clear O1 B1
      obtain ⟨j, hj, rfl, hO, hB⟩ := hrel
      have HO := Lib.hid hO
      have HB := Lib.hid hB
      obtain ⟨VA, vc, hv4, _, _⟩ := hO.shape
      clear hO hB
      by_cases hlt : j < ls.length
      · have hlt2 : (j : Int) < (ls.length : Int) := by omega
        have hw1 : IntKind.i64.wrap ((j : Int) + 1) = (j : Int) + 1 := IntWalk.i64_in _ (by omega)
        have hq0 : ¬ ((j : Int) < 0) := by omega
        obtain ⟨l, hll⟩ : ∃ l, ls[j]? = some l := ⟨_, List.getElem?_eq_getElem hlt⟩
        have L32 : Hid (l.length = 32) := H32.out l (List.mem_of_getElem? hll)
        have HT : Hid (hd ++ (ls.take j).flatten ++ l = hd ++ (ls.take (j + 1)).flatten) := by
          show _ = _
          rw [List.take_add_one, hll, List.flatten_append, List.append_assoc]
          simp
        obtain ⟨b, off, rfl, hr⟩ := h3 (by omega)
        have HR : Hid (wr.rangeAt b (off + j * 32) (cellsB l)) := fun i u hu => by
          have h1 := hr j l hll i u hu
          exact (HB.out.cell (p := ⟨b, off + j * 32 + i, none⟩) (World.block_lt_of_cell? w _ h1)).trans h1
        have HLJ := Lib.hid (LT.out j (by omega))
        obtain ⟨pre, hpre⟩ : ∃ pre, pre = hd ++ (ls.take j).flatten := ⟨_, rfl⟩
        rw [← hpre] at HO HT HLJ hv4
        clear hr hll h3 LT hpre
        subst hv4
        go_wp2_with (with_reducible refine wpList_loadK (o := ⟨some 25, _, _, _, _, _⟩) rfl 24 (.tmp 24) rfl b (off + j * 32) (by with_unfolding_all rfl) l (.array 32 5) (by with_unfolding_all exact HR.out) Try.underlying24 rfl (Try.sizeKeyM l L32.out) ?_)
        refine (HBY.out wr l L32.out).mono ?_
        intro e w2 hh
        obtain ⟨u2, he, hu2, b2⟩ := hh
        subst he
        have U2 := Lib.hid hu2
        have O2 := Lib.hid (HO.out.below b2)
        have B2 := Lib.hid (HB.out.trans (b2.mono HB.out.size))
        obtain ⟨A2, c2, rfl, _, _, _⟩ := hu2
        clear b2 HO HB HR HBY
        go_wp2_with (at_builtin; refine wpList_appB _ (o := ⟨some 27, _, _, _, _, _⟩) rfl (.tmp 21) (.tmp 26) 25 rfl w 5 Try.infoBy Try.underlying25 _ _ pre l rfl rfl O2.out U2.out (by have := HLJ.out; have := L32.out; omega) B2.out ?_; intro v7 w7 own7 b7; have O7 : Hid (OwnB w7 w.heap.size 5 v7 (hd ++ (ls.take (j + 1)).flatten)) := HT.out ▸ own7; have B7 := Lib.hid b7; clear own7 b7)
        go_roundw
        case rel => exact ⟨j + 1, by omega, by go_num, O7.out, B7.out⟩
        case measure => simp [intOf]; omega
      · have hj2 : j = ls.length := by omega
        subst hj2
        have HLJ := LT.out ls.length (by omega)
        rw [List.take_length] at HO HLJ hv4
        obtain ⟨m, hm⟩ : ∃ m, m = hd ++ ls.flatten := ⟨_, rfl⟩
        rw [← hm] at HO HLJ hv4 E
        have HP := Lib.hid (fun w u h hu hs => roAdd_ok w S r s u m h hu (by omega) hs)
        clear hm HLJ LT
        subst hv4
        go_wp2_with fail
        refine (HP.out _ _ (HH.out.kept HB.out) HO.out.bs (fun k hk => Nat.lt_of_lt_of_le (HS.out k hk) HB.out.size)).mono ?_
        intro e w3 hh
        obtain ⟨he, h3, g3⟩ := hh
        subst he
        have H3 := Lib.hid h3
        have G3 := Lib.hid g3
        clear h3 g3
        go_wp2
        go_end0
        exact ⟨rfl, by rw [E.out]; exact H3.out, (grown_any HB.out (some r)).trans G3.out⟩

/-- What Done hands back. -/
def St.out (s : St) : List UInt8 := if s.e = 0 then s.l else []
/-- Where there is an error nothing is written. -/
def St.Inv (s : St) : Prop := s.e ≠ 0 → s.l = []
theorem inv_fail (s : St) (x : Int) (h : s.Inv) : (s.fail x).Inv := by
  unfold St.fail St.Inv
  split
  · intro _; rfl
  · exact h
theorem inv_put (s : St) (b : List UInt8) (h : s.Inv) : (s.put b).Inv := by
  unfold St.put St.Inv
  split
  · intro h0; exact absurd rfl h0
  · exact h
theorem out_inv (s : St) (h : s.Inv) : s.out = s.l := by
  unfold St.out
  split
  · rfl
  · rename_i h0; exact (h h0).symm
end Go.Proofs.Ytmhhjdiilmgmoaa
end
section
namespace Go.Proofs.Ytmhhjdiilmgmoaa
open Go.RowKit
set_option linter.unusedVariables false
set_option maxRecDepth 20000

/-- The document's In at r, over the bytes b that bv reads as. -/
def RiAt (w : World) (r : Nat) (bv : Value) (b : List UInt8) (s : St) : Prop :=
  Bs w bv b ∧ ∃ at_ : Nat, RowAt w r 70 #[bv, .int .i64 (at_ : Int), .int .i64 s.e] ∧ at_ ≤ b.length ∧ (s.e = 0 → s.l = b.drop at_)
theorem no_u8R {w : World} {v : Value} {l : List UInt8} (h : Bs w v l) (a e : Int) : ∀ (j : Nat) (x : Int), (#[v, .int .i64 a, .int .i64 e] : Array Value)[j]? ≠ some (Value.int .u8 x) := by
  obtain ⟨A, c, rfl, _⟩ := h
  intro j x hx
  match j, hx with
  | 0, hx => simp at hx
  | 1, hx => simp at hx
  | 2, hx => simp at hx
theorem RiAt.kept {w w' : World} {r : Nat} {bv : Value} {b : List UInt8} {s : St} (h : RiAt w r bv b s) (hb : Below w.heap.size w w') : RiAt w' r bv b s := by
  obtain ⟨h0, a, h1, h2, h3⟩ := h
  exact ⟨h0.below hb, a, h1.kept hb, h2, h3⟩
theorem RiAt.lt {w : World} {r : Nat} {bv : Value} {b : List UInt8} {s : St} (h : RiAt w r bv b s) : r < w.heap.size := by obtain ⟨_, a, h1, _⟩ := h; exact h1.lt
theorem RiAt.bs {w w' : World} {r : Nat} {bv u : Value} {b l : List UInt8} {s : St} (h : RiAt w r bv b s) (hb : Bs w u l) (hg : w.grownBy w' (some r)) : Bs w' u l := by
  obtain ⟨h0, a, h1, _⟩ := h
  exact hb.turn h1 (no_u8R h0 _ _) hg
theorem RiAt.kl {w w' : World} {r : Nat} {bv u : Value} {b : List UInt8} {l : List (List UInt8)} {s : St} (h : RiAt w r bv b s) (hb : Kl w u l) (hg : w.grownBy w' (some r)) : Kl w' u l := by
  obtain ⟨h0, a, h1, _⟩ := h
  exact hb.turn h1 (no_u8R h0 _ _) hg
theorem RowAt.put3b {w : World} {i : Nat} {t : TypeId} {x y z : Value} (h : RowAt w i t #[x, y, z]) (a : Value) : RowAt (w.setCell ⟨i, 1, none⟩ a) i t #[x, a, z] := h.put 1 a
theorem RowAt.put3c {w : World} {i : Nat} {t : TypeId} {x y z : Value} (h : RowAt w i t #[x, y, z]) (a : Value) : RowAt (w.setCell ⟨i, 2, none⟩ a) i t #[x, y, a] := h.put 2 a

theorem take_yes (s : St) (n : Nat) (h : s.e = 0) (hn : n ≤ s.l.length) : s.take n = s.l.take n ∧ s.rest n = ⟨s.l.drop n, 0⟩ := by
  have e : s.taken n = s := by unfold St.taken; exact if_neg (by omega)
  unfold St.take St.rest
  rw [e, if_pos h, if_pos h]
  exact ⟨rfl, rfl⟩
set_option maxHeartbeats 1000000 in
theorem riFail_any (w : World) (r : Nat) (bv : Value) (b : List UInt8) (s : St) (x : Int) (hx : x ≠ 0) (h : RiAt w r bv b s) :
    Calls Try.prog 61 #[.pointer (some ⟨r, 0, none⟩), .int .i64 x] w fun e w' => e = .returned (.tuple #[]) ∧ RiAt w' r bv b (s.fail x) ∧ w.grownBy w' (some r) := by
  have HH := Lib.hid h
  obtain ⟨l, y⟩ := s
  obtain ⟨hv, a, hr, ha, hl⟩ := h
  have c2 : w.cell? ⟨r, 2, none⟩ = some (.int .i64 y) := hr.cell 2
  have z2 : w.frozen? ⟨r, 2, none⟩ = false := hr.frozen 2
  have HR := Lib.hid hr
  have HV := Lib.hid hv
  clear hr hl hv
  by_cases hy : y = 0
  · subst hy
    go_enter Try.func61, Try.ntmps61
    go_wp2
    go_end0
    exact ⟨rfl, ⟨HV.out.turn HR.out (no_u8R HV.out _ _) (grown_setCell _ _ _ _), a, HR.out.put3c _, ha, fun e => absurd e hx⟩, grown_setCell _ _ _ _⟩
  · have hd : decide (y = 0) = false := by simp [hy]
    go_enter Try.func61, Try.ntmps61
    go_wp2
    go_end0
    refine ⟨rfl, ?_, World.grownBy.refl _ _⟩
    unfold St.fail
    rw [if_neg hy]
    exact HH.out

/-- A slice that lies in the block of another. -/
def InB (v bv : Value) : Prop := ∀ k, v.ownBlock = some k → bv.ownBlock = some k
theorem InB.nil (n c : Nat) (bv : Value) : InB (.slice none n c) bv := fun k h => by cases h
theorem InB.same (A : Option Addr) (n c n2 c2 : Nat) : InB (.slice A n c) (.slice A n2 c2) := fun k h => by
  cases A with
  | none => cases h
  | some p => exact h
theorem InB.add (A : Option Addr) (n c n2 c2 j : Nat) : InB (.slice (A.map fun x => x.add j) n c) (.slice A n2 c2) := fun k h => by
  cases A with
  | none => cases h
  | some p =>
    have e : (p.add j).block = p.block := by unfold Addr.add; split <;> rfl
    have h2 : some (p.add j).block = some k := h
    rw [e] at h2
    exact h2
set_option maxHeartbeats 2000000 in
theorem riTakeIn (w : World) (r : Nat) (bv : Value) (b : List UInt8) (s : St) (n : Nat) (hn : n ≤ 100000000) (hbl : b.length ≤ 1000000000) (h : RiAt w r bv b s) :
    Calls Try.prog 62 #[.pointer (some ⟨r, 0, none⟩), .int .i64 (n : Int)] w fun e w' => ∃ v, e = .returned v ∧ (Bs w' v (s.take n) ∧ InB v bv) ∧ RiAt w' r bv b (s.rest n) ∧ w.grownBy w' (some r) := by
  have HH := Lib.hid h
  obtain ⟨l, y⟩ := s
  obtain ⟨hv, a, hr, ha, hl⟩ := h
  have c0 : w.cell? ⟨r, 0, none⟩ = some bv := hr.cell 0
  have c1 : w.cell? ⟨r, 1, none⟩ = some (.int .i64 (a : Int)) := hr.cell 1
  have c2 : w.cell? ⟨r, 2, none⟩ = some (.int .i64 y) := hr.cell 2
  have z1 : w.frozen? ⟨r, 1, none⟩ = false := hr.frozen 1
  have z2 : w.frozen? ⟨r, 2, none⟩ = false := hr.frozen 2
  have HR := Lib.hid hr
  have HV := Lib.hid hv
  obtain ⟨A, c, rfl, h1, h2, _⟩ := hv
  unfold maxLen at h2
  simp only at hl
  have hw1 : IntKind.i64.wrap ((a : Int) + (n : Int)) = (a : Int) + (n : Int) := IntWalk.i64_in _ (by omega)
  clear hr
  by_cases hy : y = 0
  · subst hy
    have hle : l = b.drop a := hl rfl
    have hll : l.length = b.length - a := by rw [hle, List.length_drop]
    by_cases hs : (b.length : Int) < (a : Int) + (n : Int)
    · obtain ⟨t1, t2⟩ := take_no ⟨l, 0⟩ n rfl (by simp only; omega)
      have T1 := Lib.hid t1
      have T2 := Lib.hid t2
      clear t1 t2 hl hle hll
      go_enter Try.func62, Try.ntmps62
      go_wp2
      go_quiet (fail)
      go_wp2
      go_ret
      have hg := grown_setCell (w.drewN nq) r 2 (.int .i64 3)
      have hg2 : w.grownBy ((w.drewN nq).setCell ⟨r, 2, none⟩ (.int .i64 3)) (some r) := (grown_drewN (World.grownBy.refl w (some r)) nq).trans hg
      exact ⟨_, rfl, ⟨by rw [T1.out]; exact Bs.nil _, InB.nil _ _ _⟩, by rw [T2.out]; exact ⟨(HV.out.drewN nq).turn (HR.out.drewN nq) (no_u8R HV.out _ _) hg, a, (HR.out.drewN nq).put3c _, ha, fun e => absurd e (by decide)⟩, hg2⟩
    · obtain ⟨t1, t2⟩ := take_yes ⟨l, 0⟩ n rfl (by simp only; omega)
      simp only at t1 t2
      rw [hle, List.drop_drop] at t2
      rw [hle] at t1
      have T1 : Hid (St.take ⟨l, 0⟩ n = (b.drop a).take n) := by show _ = _; rw [← t1, hle]
      have T2 : Hid (St.rest ⟨l, 0⟩ n = ⟨b.drop (a + n), 0⟩) := by show _ = _; rw [← t2, hle]
      clear t1 t2
      have HCT := Lib.hid ((HV.out.cut a ha).fore n (by rw [List.length_drop]; omega))
      have hw2 : IntKind.i64.wrap ((a : Int) + (n : Int) - (n : Int)) = (a : Int) := by rw [IntWalk.i64_in _ (by omega)]; omega
      have hb0 : (0 : Int) ≤ (a : Int) := by omega
      have hb1 : (a : Int) ≤ (a : Int) + (n : Int) := by omega
      have hb2 : (a : Int) + (n : Int) ≤ (c : Int) := by omega
      have hb3 : (0 : Int) ≤ (a : Int) + (n : Int) := by omega
      have hb4 : ((a : Int) + (n : Int)).toNat = a + n := by omega
      have hb5 : a + n - a = n := by omega
      have hq1 : (a : Int) + (n : Int) - (n : Int) = (a : Int) := by omega
      clear hl hle hll
      by_cases hca : c = a
      · rw [if_pos hca, show c - a = 0 by omega] at HCT
        have HP : Hid (((a + n : Nat) : Int) = (a : Int) + (n : Int)) := by show _ = _; omega
        go_enter Try.func62, Try.ntmps62
        go_wp2
        go_quiet (fail)
        go_wp2
        go_quiet (fail)
        go_wp2
        go_ret
        exact ⟨_, rfl, ⟨by rw [T1.out]; exact ((HCT.out.drewN _).turn (HR.out.drewN _) (no_u8R HV.out _ _) (grown_setCell _ _ _ _)).drewN _, InB.same _ _ _ _ _⟩, by rw [T2.out]; exact ⟨((HV.out.drewN _).turn (HR.out.drewN _) (no_u8R HV.out _ _) (grown_setCell _ _ _ _)).drewN _, a + n, by rw [HP.out]; exact ((HR.out.drewN _).put3b _).drewN _, by omega, fun _ => rfl⟩, grown_drewN ((grown_drewN (World.grownBy.refl w (some r)) _).trans (grown_setCell _ r 1 _)) _⟩
      · rw [if_neg hca] at HCT
        have HP : Hid (((a + n : Nat) : Int) = (a : Int) + (n : Int)) := by show _ = _; omega
        go_enter Try.func62, Try.ntmps62
        go_wp2
        go_quiet (fail)
        go_wp2
        go_quiet (fail)
        go_wp2
        go_ret
        exact ⟨_, rfl, ⟨by rw [T1.out]; exact ((HCT.out.drewN _).turn (HR.out.drewN _) (no_u8R HV.out _ _) (grown_setCell _ _ _ _)).drewN _, InB.add _ _ _ _ _ _⟩, by rw [T2.out]; exact ⟨((HV.out.drewN _).turn (HR.out.drewN _) (no_u8R HV.out _ _) (grown_setCell _ _ _ _)).drewN _, a + n, by rw [HP.out]; exact ((HR.out.drewN _).put3b _).drewN _, by omega, fun _ => rfl⟩, grown_drewN ((grown_drewN (World.grownBy.refl w (some r)) _).trans (grown_setCell _ r 1 _)) _⟩
  · obtain ⟨t1, t2⟩ := take_err ⟨l, y⟩ n hy
    have T1 := Lib.hid t1
    have T2 := Lib.hid t2
    have hd : decide (y = 0) = false := by simp [hy]
    clear t1 t2 hl
    go_enter Try.func62, Try.ntmps62
    go_wp2
    go_quiet (fail)
    go_wp2
    go_ret
    exact ⟨_, rfl, ⟨by rw [T1.out]; exact Bs.nil _, InB.nil _ _ _⟩, by rw [T2.out]; exact HH.out.kept (below_drewN (Below.refl _ _) nq), grown_drewN (World.grownBy.refl w (some r)) nq⟩

theorem riTake_any (w : World) (r : Nat) (bv : Value) (b : List UInt8) (s : St) (n : Nat) (hn : n ≤ 100000000) (hbl : b.length ≤ 1000000000) (h : RiAt w r bv b s) :
    Calls Try.prog 62 #[.pointer (some ⟨r, 0, none⟩), .int .i64 (n : Int)] w fun e w' => ∃ v, e = .returned v ∧ Bs w' v (s.take n) ∧ RiAt w' r bv b (s.rest n) ∧ w.grownBy w' (some r) :=
  (riTakeIn w r bv b s n hn hbl h).mono fun _ _ ⟨v, h1, h2, h3⟩ => ⟨v, h1, h2.1, h3⟩

set_option maxHeartbeats 1000000 in
theorem riNumber_any (w : World) (r : Nat) (bv : Value) (b : List UInt8) (s : St) (z : Int) (hbl : b.length ≤ 1000000000) (h : RiAt w r bv b s) :
    Calls Try.prog 39 #[.pointer (some ⟨r, 0, none⟩), .int .i64 z] w fun e w' => e = .returned (.int .u64 (s.num z : Int)) ∧ RiAt w' r bv b (s.numS z) ∧ w.grownBy w' (some r) := by
  have HH := Lib.hid h
  have HZ : Hid (∀ w, Calls Try.prog 47 #[.int .i64 z] w fun e w' => e = .returned (.bool (isNum z)) ∧ w = w') := fun w => refSize_any w z
  clear h
  by_cases hz : isNum z = true
  · obtain ⟨n, rfl⟩ : ∃ n : Nat, z = n := ⟨z.toNat, by have := inNum_shape z hz; omega⟩
    have hn8 : n ≤ 8 := by have := inNum_shape n hz; omega
    have H1 : Hid (s.num n = ofHighB ((s.take n).take 8)) := by show _ = _; unfold St.num; rw [if_pos hz]; rfl
    have H2 : Hid (s.numS n = s.rest n) := by show _ = _; unfold St.numS; rw [if_pos hz]; rfl
    have HT := Lib.hid (fun w h => riTake_any w r bv b s n (by omega) hbl h)
    rw [hz] at HZ
    clear hz
    go_enter Try.func39, Try.ntmps39
    go_wp2_with fail
    refine (HZ.out _).mono ?_
    intro e w1 hh
    obtain ⟨he, hw⟩ := hh
    subst he hw
    go_wp2_with fail
    refine (HT.out _ HH.out).mono ?_
    intro e w2 hh
    obtain ⟨v, he, hv, hi, hg⟩ := hh
    subst he
    have HI2 := Lib.hid hi
    have HG2 := Lib.hid hg
    have HV := Lib.hid hv
    obtain ⟨A, c, rfl, _, _, _⟩ := hv
    clear hi hg
    go_wp2_with fail
    refine (refOfHigh_any _ _ _ HV.out).mono ?_
    intro e w3 hh
    obtain ⟨he, hw⟩ := hh
    subst he hw
    go_wp2
    go_ret
    exact ⟨by rw [H1.out]; rfl, by rw [H2.out]; exact HI2.out, HG2.out⟩
  · have hz : isNum z = false := by simpa using hz
    have H1 : Hid (s.num z = 0) := by show _ = _; unfold St.num; rw [hz]; rfl
    have H2 : Hid (s.numS z = s.fail 51) := by show _ = _; unfold St.numS; rw [hz]; rfl
    have HT := Lib.hid (fun w h => riFail_any w r bv b s 51 (by decide) h)
    rw [hz] at HZ
    clear hz
    go_enter Try.func39, Try.ntmps39
    go_wp2_with fail
    refine (HZ.out _).mono ?_
    intro e w1 hh
    obtain ⟨he, hw⟩ := hh
    subst he hw
    go_wp2_with fail
    refine (HT.out _ HH.out).mono ?_
    intro e w2 hh
    obtain ⟨he, hi, hg⟩ := hh
    subst he
    have HI2 := Lib.hid hi
    have HG2 := Lib.hid hg
    clear hi hg
    go_wp2
    go_ret
    exact ⟨by rw [H1.out]; rfl, by rw [H2.out]; exact HI2.out, HG2.out⟩

/-- The document's way to say too many: the first error stays, and what is taken then is nothing. -/
def St.cap (s : St) (m : Int) (k : Int) : St := if (s.num 2 : Int) > m ∨ (s.num 2 : Int) > k then (s.numS 2).fail 2 else s.numS 2
theorem cap_take (s : St) (m k : Int) (f : Nat) : (s.cap m k).take (f * s.num 2) = (s.cntS (min m k)).take (f * s.cnt (min m k)) ∧ (s.cap m k).rest (f * s.num 2) = (s.cntS (min m k)).rest (f * s.cnt (min m k)) := by
  unfold St.cap St.cntS St.cnt
  by_cases h : (s.num 2 : Int) > m ∨ (s.num 2 : Int) > k
  · have h2 : (s.num 2 : Int) > min m k := by omega
    rw [if_pos h, if_pos h2, if_pos h2]
    have hne := fail_ne (s.numS 2) 2 (by decide)
    obtain ⟨a1, a2⟩ := take_err _ (f * s.num 2) hne
    obtain ⟨b1, b2⟩ := take_err _ (f * 0) hne
    rw [a1, a2, b1, b2]
    exact ⟨rfl, rfl⟩
  · have h2 : ¬ ((s.num 2 : Int) > min m k) := by omega
    rw [if_neg h, if_neg h2, if_neg h2]
    exact ⟨rfl, rfl⟩
set_option maxHeartbeats 1000000 in
theorem riBytesIn (w : World) (r : Nat) (bv : Value) (b : List UInt8) (s : St) (m : Int) (hbl : b.length ≤ 1000000000) (h : RiAt w r bv b s) :
    Calls Try.prog 41 #[.pointer (some ⟨r, 0, none⟩), .int .i64 m] w fun e w' => ∃ v, e = .returned v ∧ (Bs w' v (s.byt m) ∧ InB v bv) ∧ RiAt w' r bv b (s.bytS m) ∧ w.grownBy w' (some r) := by
  have HH := Lib.hid h
  have HN := Lib.hid (fun w h => riNumber_any w r bv b s 2 hbl h)
  obtain ⟨t1, t2⟩ := cap_take s m 4000 1
  rw [Nat.one_mul, Nat.one_mul] at t1 t2
  have H1 : Hid (s.byt m = (s.cap m 4000).take (s.num 2)) := t1.symm
  have H2 : Hid (s.bytS m = (s.cap m 4000).rest (s.num 2)) := t2.symm
  have hlt := s.num_lt
  obtain ⟨N, hN⟩ : ∃ N, N = s.num 2 := ⟨_, rfl⟩
  obtain ⟨S, hS⟩ : ∃ S, S = s.numS 2 := ⟨_, rfl⟩
  have hw : IntKind.i64.wrap (N : Int) = (N : Int) := IntWalk.i64_in _ (by omega)
  have hcap : s.cap m 4000 = if (N : Int) > m ∨ (N : Int) > 4000 then S.fail 2 else S := by rw [hN, hS]; rfl
  obtain ⟨C, hC⟩ : ∃ C, C = s.cap m 4000 := ⟨_, rfl⟩
  have HT := Lib.hid (fun w h => riTakeIn w r bv b C N (by omega) hbl h)
  have HF := Lib.hid (fun w h => riFail_any w r bv b S 2 (by decide) h)
  rw [← hC] at H1 H2 hcap
  rw [← hN] at H1 H2 HN
  rw [← hS] at HN
  clear h t1 t2 hN hS hC hlt
  by_cases hm : m < (N : Int)
  · have hCF : C = S.fail 2 := by rw [hcap, if_pos (.inl hm)]
    subst hCF
    clear hcap
    go_enter Try.func41, Try.ntmps41
    go_wp2_with fail
    refine (HN.out _ HH.out).mono ?_
    intro e w1 hh
    obtain ⟨he, hi, hg⟩ := hh
    subst he
    have I1 := Lib.hid hi
    have G1 := Lib.hid hg
    clear hi hg
    go_wp2_with fail
    refine (HF.out _ I1.out).mono ?_
    intro e w2 hh
    obtain ⟨he, hi, hg⟩ := hh
    subst he
    have I2 := Lib.hid hi
    have G2 := Lib.hid (G1.out.trans hg)
    clear hi hg
    go_wp2_with fail
    refine (HT.out _ I2.out).mono ?_
    intro e w3 hh
    obtain ⟨v, he, ⟨hv, hin⟩, hi, hg⟩ := hh
    subst he
    have I3 := Lib.hid hi
    have G3 := Lib.hid (G2.out.trans hg)
    have V3 := Lib.hid hv
    have N3 := Lib.hid hin
    obtain ⟨A, c, rfl, _, _, _⟩ := hv
    clear hin
    clear hi hg
    go_wp2
    go_ret
    exact ⟨_, rfl, ⟨by rw [H1.out]; exact V3.out, N3.out⟩, by rw [H2.out]; exact I3.out, G3.out⟩
  · by_cases hk : (4000 : Int) < (N : Int)
    · have hCF : C = S.fail 2 := by rw [hcap, if_pos (.inr hk)]
      subst hCF
      clear hcap
      go_enter Try.func41, Try.ntmps41
      go_wp2_with fail
      refine (HN.out _ HH.out).mono ?_
      intro e w1 hh
      obtain ⟨he, hi, hg⟩ := hh
      subst he
      have I1 := Lib.hid hi
      have G1 := Lib.hid hg
      clear hi hg
      go_wp2_with fail
      refine (HF.out _ I1.out).mono ?_
      intro e w2 hh
      obtain ⟨he, hi, hg⟩ := hh
      subst he
      have I2 := Lib.hid hi
      have G2 := Lib.hid (G1.out.trans hg)
      clear hi hg
      go_wp2_with fail
      refine (HT.out _ I2.out).mono ?_
      intro e w3 hh
      obtain ⟨v, he, ⟨hv, hin⟩, hi, hg⟩ := hh
      subst he
      have I3 := Lib.hid hi
      have G3 := Lib.hid (G2.out.trans hg)
      have V3 := Lib.hid hv
      have N3 := Lib.hid hin
      obtain ⟨A, c, rfl, _, _, _⟩ := hv
      clear hin
      clear hi hg
      go_wp2
      go_ret
      exact ⟨_, rfl, ⟨by rw [H1.out]; exact V3.out, N3.out⟩, by rw [H2.out]; exact I3.out, G3.out⟩
    · have hCF : C = S := by rw [hcap, if_neg (by omega)]
      subst hCF
      clear hcap HF
      go_enter Try.func41, Try.ntmps41
      go_wp2_with fail
      refine (HN.out _ HH.out).mono ?_
      intro e w1 hh
      obtain ⟨he, hi, hg⟩ := hh
      subst he
      have I1 := Lib.hid hi
      have G1 := Lib.hid hg
      clear hi hg
      go_wp2_with fail
      refine (HT.out _ I1.out).mono ?_
      intro e w3 hh
      obtain ⟨v, he, ⟨hv, hin⟩, hi, hg⟩ := hh
      subst he
      have I3 := Lib.hid hi
      have G3 := Lib.hid (G1.out.trans hg)
      have V3 := Lib.hid hv
      have N3 := Lib.hid hin
      obtain ⟨A, c, rfl, _, _, _⟩ := hv
      clear hin
      clear hi hg
      go_wp2
      go_ret
      exact ⟨_, rfl, ⟨by rw [H1.out]; exact V3.out, N3.out⟩, by rw [H2.out]; exact I3.out, G3.out⟩

theorem riBytes_any (w : World) (r : Nat) (bv : Value) (b : List UInt8) (s : St) (m : Int) (hbl : b.length ≤ 1000000000) (h : RiAt w r bv b s) :
    Calls Try.prog 41 #[.pointer (some ⟨r, 0, none⟩), .int .i64 m] w fun e w' => ∃ v, e = .returned v ∧ Bs w' v (s.byt m) ∧ RiAt w' r bv b (s.bytS m) ∧ w.grownBy w' (some r) :=
  (riBytesIn w r bv b s m hbl h).mono fun _ _ ⟨v, h1, h2, h3⟩ => ⟨v, h1, h2.1, h3⟩

set_option maxHeartbeats 1000000 in
theorem riEnd_any (w : World) (r : Nat) (bv : Value) (b : List UInt8) (s : St) (h : RiAt w r bv b s) :
    Calls Try.prog 42 #[.pointer (some ⟨r, 0, none⟩)] w fun e w' => e = .returned (.int .i64 s.fin) ∧ Below w.heap.size w w' := by
  obtain ⟨l, y⟩ := s
  obtain ⟨hv, a, hr, ha, hl⟩ := h
  have c0 : w.cell? ⟨r, 0, none⟩ = some bv := hr.cell 0
  have c1 : w.cell? ⟨r, 1, none⟩ = some (.int .i64 (a : Int)) := hr.cell 1
  have c2 : w.cell? ⟨r, 2, none⟩ = some (.int .i64 y) := hr.cell 2
  obtain ⟨A, c, rfl, h1, h2, _⟩ := hv
  simp only at hl c2
  clear hr
  by_cases hy : y = 0
  · subst hy
    have hle : l = b.drop a := hl rfl
    by_cases hlt : (a : Int) < (b.length : Int)
    · have HF : Hid ((St.mk l 0).fin = 50) := by show _ = _; unfold St.fin; rw [if_pos rfl, if_neg (by simp only; intro e; rw [hle] at e; have := congrArg List.length e; rw [List.length_drop, List.length_nil] at this; omega)]
      clear hl hle
      go_enter Try.func42, Try.ntmps42
      go_wp2
      go_quiet (fail)
      go_wp2
      go_ret
      exact ⟨by rw [HF.out]; rfl, below_drewN (Below.refl _ _) _⟩
    · have HF : Hid ((St.mk l 0).fin = 0) := by show _ = _; unfold St.fin; rw [if_pos rfl, if_pos (by simp only; rw [hle]; exact List.drop_eq_nil_of_le (by omega))]
      clear hl hle
      go_enter Try.func42, Try.ntmps42
      go_wp2
      go_quiet (fail)
      go_wp2
      go_ret
      exact ⟨by rw [HF.out]; rfl, below_drewN (Below.refl _ _) _⟩
  · have hd : decide (y = 0) = false := by simp [hy]
    have HF : Hid ((St.mk l y).fin = y) := by show _ = _; unfold St.fin; rw [if_neg hy]
    clear hl
    go_enter Try.func42, Try.ntmps42
    go_wp2
    go_quiet (fail)
    go_wp2
    go_ret
    exact ⟨by rw [HF.out]; rfl, below_drewN (Below.refl _ _) _⟩

end Go.Proofs.Ytmhhjdiilmgmoaa
end
section
namespace Go.Proofs.Ytmhhjdiilmgmoaa
open Go.RowKit
set_option linter.unusedVariables false
set_option maxRecDepth 20000

set_option maxHeartbeats 2000000 in
theorem refKeys_same (w : World) (va vb : Value) (L : List (List UInt8)) (ha : Kl w va L) (hb : Kl w vb L) (hL1 : L.length ≤ 1000) :
    Calls Try.prog 43 #[va, vb] w fun e w' => e = .returned (.bool true) ∧ Below w.heap.size w w' := by
  obtain ⟨A, ca, rfl, p1, p2, p3, p4⟩ := ha
  obtain ⟨B, cb, rfl, q1, q2, _, q4⟩ := hb
  have HL := Lib.hid p3
  unfold maxLen at p2 q2
  obtain ⟨n, hn⟩ : ∃ n, n = L.length := ⟨_, rfl⟩
  rw [← hn] at p1 p4 q1 q4 hL1 ⊢
  have HLN := Lib.hid hn
  clear hn p3
  by_cases h0 : 0 < n
  · obtain ⟨ga, oa, rfl, hca⟩ := p4 h0
    obtain ⟨gb, ob, rfl, hcb⟩ := q4 h0
    have RA0 : Hid (∀ (k : Nat) (l : List UInt8), L[k]? = some l → ∀ W, Below w.heap.size w W → W.rangeAt ga (oa + k * 32) (cellsB l)) := fun k l hk W hW j u hj => (hW.cell (World.block_lt_of_cell? w _ (hca k l hk j u hj))).trans (hca k l hk j u hj)
    have RB0 : Hid (∀ (k : Nat) (l : List UInt8), L[k]? = some l → ∀ W, Below w.heap.size w W → W.rangeAt gb (ob + k * 32) (cellsB l)) := fun k l hk W hW j u hj => (hW.cell (World.block_lt_of_cell? w _ (hcb k l hk j u hj))).trans (hcb k l hk j u hj)
    clear p4 q4 hca hcb h0
    go_enter Try.func43, Try.ntmps43
    go_wp2_with fail
    go_loopw [5] (fun v wr => ∃ k : Nat, k ≤ n ∧ v = .int .i64 (k : Int) ∧ Below w.heap.size w wr) (fun v _ => n - (intOf v).toNat)
    case atStart => exact ⟨0, by omega, rfl, Below.refl _ _⟩
    case round =>
      obtain ⟨k, hk, rfl, hE⟩ := hrel
      have E := Lib.hid hE
      clear hE
      by_cases hlt : k < n
      · have hlt2 : (k : Int) < (n : Int) := by omega
        have hw1 : IntKind.i64.wrap ((k : Int) + 1) = (k : Int) + 1 := IntWalk.i64_in _ (by omega)
        have hq0 : ¬ ((k : Int) < 0) := by omega
        obtain ⟨l, hl⟩ : ∃ l, L[k]? = some l := ⟨_, List.getElem?_eq_getElem (by rw [← HLN.out]; exact hlt)⟩
        have LL : Hid (l.length = 32) := HL.out l (List.mem_of_getElem? hl)
        have RA := Lib.hid (RA0.out k l hl)
        have RB := Lib.hid (RB0.out k l hl)
        have heq := fun W => Try.eqKeyIn l l LL.out LL.out W
        rw [beq_self_eq_true] at heq
        have HEQ := Lib.hid heq
        clear hl RA0 RB0 HL heq
        go_wp2_with fail
        refine region_class (fun W => Below w.heap.size w W) E.out.drew (by kernel_rfl) (by kernel_rfl) ?_
        clear E
        refine q_run (by rfl) (v := .slice (some ⟨ga, oa, none⟩) n ca) (fun W hW => by first | rfl | (clear hW; go_simp)) ?_
        try simp only [Act.put, List.setIfInBounds_toArray, List.set_cons_zero, List.set_cons_succ]
        refine q_run (by rfl) (v := .int .i64 (k : Int)) (fun W hW => by first | rfl | (clear hW; go_simp)) ?_
        try simp only [Act.put, List.setIfInBounds_toArray, List.set_cons_zero, List.set_cons_succ]
        refine q_run (by rfl) (v := .pointer (some ⟨ga, oa + k * 32, none⟩)) (fun W hW => by first | rfl | (clear hW; go_simp)) ?_
        try simp only [Act.put, List.setIfInBounds_toArray, List.set_cons_zero, List.set_cons_succ]
        refine q_run (by rfl) (v := .agg (keyC l)) (fun W hW => run_keyL 24 (.tmp 19) rfl ga (oa + k * 32) rfl l _ (RA.out W hW) Try.underlying24 rfl (Try.sizeKeyM l LL.out)) ?_
        try simp only [Act.put, List.setIfInBounds_toArray, List.set_cons_zero, List.set_cons_succ]
        refine q_run (by rfl) (v := .slice (some ⟨gb, ob, none⟩) n cb) (fun W hW => by first | rfl | (clear hW; go_simp)) ?_
        try simp only [Act.put, List.setIfInBounds_toArray, List.set_cons_zero, List.set_cons_succ]
        refine q_run (by rfl) (v := .int .i64 (k : Int)) (fun W hW => by first | rfl | (clear hW; go_simp)) ?_
        try simp only [Act.put, List.setIfInBounds_toArray, List.set_cons_zero, List.set_cons_succ]
        refine q_run (by rfl) (v := .pointer (some ⟨gb, ob + k * 32, none⟩)) (fun W hW => by first | rfl | (clear hW; go_simp)) ?_
        try simp only [Act.put, List.setIfInBounds_toArray, List.set_cons_zero, List.set_cons_succ]
        refine q_run (by rfl) (v := .agg (keyC l)) (fun W hW => run_keyL 24 (.tmp 23) rfl gb (ob + k * 32) rfl l _ (RB.out W hW) Try.underlying24 rfl (Try.sizeKeyM l LL.out)) ?_
        try simp only [Act.put, List.setIfInBounds_toArray, List.set_cons_zero, List.set_cons_succ]
        refine q_run (by rfl) (v := .bool false) (fun W hW => by have he := HEQ.out; have hgd := Try.eqGuardKey; clear hW; go_simp) ?_
        try simp only [Act.put, List.setIfInBounds_toArray, List.set_cons_zero, List.set_cons_succ]
        refine wpQuiet_nil ?_
        intro w7 hw7
        have E7 := Lib.hid hw7
        clear hw7
        go_wp2_with fail
        refine ⟨⟨k + 1, by omega, by congr 1, E7.out⟩, ?_⟩
        show n - ((k : Int) + 1).toNat < n - (k : Int).toNat
        omega
      · have hk2 : k = n := by omega
        clear hlt
        subst hk2
        go_wp2_with fail
        go_ret
        exact ⟨rfl, E.out⟩
  · obtain rfl : n = 0 := by omega
    clear p4 q4 h0
    go_enter Try.func43, Try.ntmps43
    go_wp2_with fail
    go_loopw [5] (fun v wr => v = .int .i64 0 ∧ Below w.heap.size w wr) (fun v _ => 0)
    case atStart => exact ⟨rfl, Below.refl _ _⟩
    case round =>
      obtain ⟨rfl, hE⟩ := hrel
      have E := Lib.hid hE
      clear hE
      go_wp2_with fail
      go_ret
      exact ⟨rfl, E.out⟩

theorem wpList_oneKey {w : World} {ops : Array Oper} {rest : List Oper} {o : Oper} {a : Act} {Q : Exit → Act → World → Prop} (hgd : o.guard = none) (x : Operand) (ho : o.op = .buildSlice 26 1 #[(0, x)]) (l : List UInt8) (hl : l.length = 32) (hx : a.eval x = .agg (keyC l))
    (h : ∀ g w', RowAt w' g 24 (keyC l) → Below w.heap.size w w' → wpList Try.prog ops Q rest (a.put o.dst (.slice (some ⟨g, 0, none⟩) 1 1)) w') : wpList Try.prog ops Q (o :: rest) a w :=
  wpList_plain hgd fun _ hK => wp_oneKey x ho l hl hx (hK _ _ (h w.heap.size _ (RowAt.new w _ _) (alloc_below w _)))
theorem wpList_appKeyO {w0 w : World} {ops : Array Oper} {rest : List Oper} {o : Oper} {a : Act} {Q : Exit → Act → World → Prop} (hgd : o.guard = none) (s x : Operand)
    (ho : o.op = .call { callee := .builtin .append, args := #[s, x], argTypes := #[26, 26] })
    (v : Value) (ls : List (List UInt8)) (l : List UInt8) (n b : Nat) (hs : a.eval s = v) (hx : a.eval x = .slice (some ⟨b, 0, none⟩) 1 1) (hrow : RowAt w b 24 (keyC l)) (hl : l.length = 32) (hls : n = ls.length) (hlen : ls.length ≤ 1000)
    (hown : w.ownsRow w0.heap.size 24 32 v n (cellsB ls.flatten)) (hb : Below w0.heap.size w0 w)
    (h : ∀ v' w', w'.ownsRow w0.heap.size 24 32 v' (n + 1) (cellsB (ls ++ [l]).flatten) → Below w0.heap.size w0 w' → wpList Try.prog ops Q rest (a.put o.dst v') w') : wpList Try.prog ops Q (o :: rest) a w := by
  subst hls
  refine wpList_plain hgd fun _ hK => ?_
  obtain ⟨i0, hi0, hz0, hz1, hz2⟩ := info_parts Try.infoKey
  refine wp_append_own w s x 26 ho w0.heap.size 24 i0 (.agg (keyC zeroKey)) 32 32 Try.underlying26 hi0 hz0 hz1 hz2 rfl (by decide) v ls.length (cellsB ls.flatten) hs hown ⟨b, 0, none⟩ 1 1 (cellsB l) hx (by rw [cellsB_length, hl]) (fun j y hj => ?_) (cellsB_one l) (by unfold maxLen; omega) (by omega) hb.size fun v2 W2 ho2 hg2 _ => ?_
  · have hadd : (⟨b, 0, none⟩ : Addr).add j = ⟨b, j, none⟩ := by unfold Addr.add; split <;> simp_all
    rw [hadd, hrow.cell j]
    simpa [keyC] using hj
  · refine hK _ _ (h v2 W2 ?_ (hb.grown hg2 hb.size fun k e => (World.ownsRow.lt hown k e).1))
    rw [List.flatten_append, List.flatten_singleton, cellsB_append]
    exact ho2
end Go.Proofs.Ytmhhjdiilmgmoaa
end
