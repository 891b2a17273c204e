/-
  Texts that belong together, merged: CodR, CodS, CodN. Conditions: as each theorem names them.
-/
import Derived.Test.YtjhhpakaemnemaaQCorAH
section
namespace Go.Proofs.Ytjhhpakaemnemaa
open Go.RowKit
set_option linter.unusedVariables false
set_option maxRecDepth 20000

set_option maxHeartbeats 400000 in
theorem refHigh_own (w : World) (n : Nat) (hn : n < 18446744073709551616) (s : Int) (hs : -9223372036854775808 ≤ s ∧ s ≤ 9223372036854775807) :
    Calls Try.prog 60 #[.int .u64 (n : Int), .int .i64 s] w fun e w' => ∃ v, e = .returned v ∧ OwnB w' w.heap.size 5 v (highI n s) ∧ Below w.heap.size w w' := by
  unfold highI
  have hlen := lowI_length n s
  have hc := fun w => refLow_any w n hn s hs
  generalize lowI n s = l at hlen hc ⊢
  have HC := Lib.hid hc
  clear hc
  go_enter Try.func60, Try.ntmps60
  go_wp2_with (go_at_call 78; refine (HC.out _).mono ?_; rintro e w1 ⟨_, rfl, ⟨A, c, rfl, h1, h2, h3⟩, hb0⟩)
  have HB0 := Lib.hid hb0
  unfold maxLen at h2
  clear hb0
  go_loopw [6, 7] (fun v i wr => ∃ k : Nat, k ≤ l.length ∧ i = .int .i64 ((l.length : Int) - 1 - k) ∧ OwnB wr w1.heap.size 5 v (l.reverse.take k) ∧ Below w1.heap.size w1 wr) (fun _ i _ => (intOf i + 1).toNat)
  case atStart => exact ⟨0, Nat.zero_le _, by simp, OwnB.nil _ _ _, Below.refl _ _⟩
  case round =>
    obtain ⟨k, hk, rfl, hown, hb⟩ := hrel
    have HO := Lib.hid hown
    have HB := Lib.hid hb
    have hsz := hb.size
    clear hown hb
    by_cases hlt : k < l.length
    · obtain ⟨b0, o0, rfl, hc⟩ := h3 (by omega)
      have hcell : wr.cell? ⟨b0, o0 + (l.length - 1 - k), none⟩ = some (.int .u8 ((l[l.length - 1 - k]'(by omega)).toNat : Int)) :=
        (HB.out.cell (p := ⟨b0, o0 + (l.length - 1 - k), none⟩) (World.block_lt_of_cell? w1 _ (hc (l.length - 1 - k) (by omega)))).trans (hc (l.length - 1 - k) (by omega))
      have htk : l.reverse.take (k + 1) = l.reverse.take k ++ [l[l.length - 1 - k]'(by omega)] := by
        rw [List.take_succ_eq_append_getElem (by simpa using hlt), List.getElem_reverse]
      have HT := Lib.hid htk
      clear htk hc h3
      go_wp2_with (at_builtin; refine wpList_appB _ rfl (.tmp 18) (.tmp 23) 25 rfl w1 5 Try.infoB Try.underlying25 _ _ _ [l[l.length - 1 - k]'(by omega)] rfl rfl (HO.out.alloc _) (Bs.lit1 _ _ _ _ rfl) (by simp; omega) (HB.out.alloc hsz _) ?_; intro v2 w2 hown2 hb2)
      go_roundw
      case rel => exact ⟨k + 1, by omega, by go_num, by rw [HT.out]; exact hown2, hb2⟩
      case measure => simp [intOf]; omega
    · have hks : k = l.length := by omega
      subst hks
      have HO2 : Hid (OwnB wr w1.heap.size 5 u6 l.reverse) := by
        have := HO.out; rwa [List.take_of_length_le (by simp)] at this
      go_wp2
      go_ret
      exact ⟨_, rfl, World.ownsRow.mono HO2.out HB0.out.size, below_size HB0.out HB.out⟩

/-- The document's Out at r. -/
def RoAt (w : World) (r : Nat) (s : St) (S : Nat → Prop) : Prop := ∃ v B, RowAt w r 69 #[v, .int .i64 s.e] ∧ Bs w v B ∧ (s.e = 0 → B = s.l) ∧ U8At w v ∧ ∀ k, v.ownBlock = some k → ¬ S k
theorem RoAt.kept {w w' : World} {r : Nat} {s : St} {S : Nat → Prop} (h : RoAt w r s S) (hb : Below w.heap.size w w') : RoAt w' r s S := by
  obtain ⟨v, B, h1, h2, h3, h4, h5⟩ := h
  exact ⟨v, B, h1.kept hb, h2.below hb, h3, h4.below hb, h5⟩
theorem RoAt.lt {w : World} {r : Nat} {s : St} {S : Nat → Prop} (h : RoAt w r s S) : r < w.heap.size := by obtain ⟨v, B, h1, _⟩ := h; exact h1.lt
theorem RoAt.bs {w w' : World} {r : Nat} {s : St} {S : Nat → Prop} (h : RoAt w r s S) {u : Value} {l : List UInt8} (hb : Bs w u l) (hg : w.grownBy w' (some r)) : Bs w' u l := by
  obtain ⟨v, B, h1, h2, _⟩ := h
  exact hb.turn h1 (no_u8 h2 _) hg

set_option maxHeartbeats 1000000 in
theorem refSize_any (w : World) (z : Int) : Calls Try.prog 50 #[.int .i64 z] w fun e w' => e = .returned (.bool (isNum z)) ∧ w = w' := by
  have E : Hid (isNum z = (decide (z = 1) || (decide (z = 2) || (decide (z = 4) || decide (z = 8))))) := by show _ = _; simp [isNum, Bool.or_assoc]; rfl
  rw [E.out]
  clear E
  by_cases h1 : z = 1
  · subst h1
    go_enter Try.func50, Try.ntmps50
    go_wp2
    go_ret
    exact ⟨rfl, rfl⟩
  · by_cases h2 : z = 2
    · subst h2
      go_enter Try.func50, Try.ntmps50
      go_wp2
      go_ret
      exact ⟨rfl, rfl⟩
    · by_cases h4 : z = 4
      · subst h4
        go_enter Try.func50, Try.ntmps50
        go_wp2
        go_ret
        exact ⟨rfl, rfl⟩
      · have d1 : decide (z = 1) = false := by simp [h1]
        have d2 : decide (z = 2) = false := by simp [h2]
        have d4 : decide (z = 4) = false := by simp [h4]
        by_cases h8 : z = 8
        · subst h8
          go_enter Try.func50, Try.ntmps50
          go_wp2
          go_ret
          exact ⟨rfl, rfl⟩
        · have d8 : decide (z = 8) = false := by simp [h8]
          go_enter Try.func50, Try.ntmps50
          go_wp2
          go_ret
          exact ⟨by simp [h1, h2, h4, h8], rfl⟩

set_option maxHeartbeats 1000000 in
theorem roAdd_err (w : World) (S : Nat → Prop) (r : Nat) (s : St) (x : Int) (hx : x ≠ 0) (h : RoAt w r s S) :
    Calls Try.prog 61 #[.pointer (some ⟨r, 0, none⟩), .int .i64 x, .slice none 0 0] w fun e w' => e = .returned (.tuple #[]) ∧ RoAt w' r (s.fail x) S ∧ w.grownBy w' (some r) := by
  obtain ⟨l, y⟩ := s
  obtain ⟨v, B, hr, hv, hB, hu8, hS5⟩ := h
  have HU8 := Lib.hid hu8
  have HS5 := Lib.hid hS5
  clear hu8 hS5
  have c0 : w.cell? ⟨r, 0, none⟩ = some v := hr.cell 0
  have c1 : w.cell? ⟨r, 1, none⟩ = some (.int .i64 y) := hr.cell 1
  have z1 : w.frozen? ⟨r, 1, none⟩ = false := hr.frozen 1
  have HR := Lib.hid hr
  have HV := Lib.hid hv
  have HB := Lib.hid hB
  obtain ⟨A, c, rfl, _, _, _⟩ := hv
  have hdx : decide (x = 0) = false := by simp [hx]
  clear hr hB
  by_cases hy : y = 0
  · subst hy
    go_enter Try.func61, Try.ntmps61
    go_wp2
    refine bodyPost_ret (results_none rfl _ _ _) rfl ?_
    refine ⟨rfl, ?_, grown_setCell _ _ _ _⟩
    exact ⟨_, B, HR.out.put 1 (.int .i64 x), HV.out.turn HR.out (no_u8 HV.out 0) (grown_setCell _ _ _ _), fun e => absurd e hx, HU8.out.turn HR.out (by decide) (grown_setCell _ _ _ _), HS5.out⟩
  · have hd : decide (y = 0) = false := by simp [hy]
    go_enter Try.func61, Try.ntmps61
    go_wp2
    refine bodyPost_ret (results_none rfl _ _ _) rfl ?_
    refine ⟨rfl, ?_, World.grownBy.refl _ _⟩
    unfold St.fail
    rw [if_neg hy]
    exact ⟨_, B, HR.out, HV.out, HB.out, HU8.out, HS5.out⟩

set_option maxHeartbeats 1000000 in
theorem roAdd_ok (w : World) (S : Nat → Prop) (r : Nat) (s : St) (u : Value) (b : List UInt8) (h : RoAt w r s S) (hu : Bs w u b) (hl : s.l.length + b.length ≤ 1000000000) (hS : ∀ k, S k → k < w.heap.size) :
   
    Calls Try.prog 61 #[.pointer (some ⟨r, 0, none⟩), .int .i64 0, u] w fun e w' => e = .returned (.tuple #[]) ∧ RoAt w' r (s.put b) S ∧ w.grownBy w' (some r) := by
  have hrl := h.lt
  have HS := Lib.hid hS
  clear hS
  obtain ⟨l, y⟩ := s
  obtain ⟨v, B, hr, hv, hB, hu8, hS5⟩ := h
  have HU8 := Lib.hid hu8
  have HS5 := Lib.hid hS5
  clear hu8 hS5
  have c0 : w.cell? ⟨r, 0, none⟩ = some v := hr.cell 0
  have c1 : w.cell? ⟨r, 1, none⟩ = some (.int .i64 y) := hr.cell 1
  have HR := Lib.hid hr
  have HV := Lib.hid hv
  have HB := Lib.hid hB
  have HU := Lib.hid hu
  obtain ⟨A, c, rfl, _, _, _⟩ := hv
  obtain ⟨A2, c2, rfl, _, _, _⟩ := hu
  simp only at hl hB HR HB
  clear hr
  by_cases hy : y = 0
  · subst hy
    have hBl : B = l := hB rfl
    subst hBl
    clear hB
    have E : Hid (St.put ⟨B, 0⟩ b = ⟨B ++ b, 0⟩) := by show _ = _; unfold St.put; rw [if_pos rfl]
    obtain ⟨m, hm⟩ : ∃ m, m = B ++ b := ⟨_, rfl⟩
    have HM := Lib.hid hm
    rw [← hm] at E
    have AL := alloc_below w (.cells #[] 5)
    have HAL := Lib.hid AL
    have O1 : Hid (OwnB (w.alloc (.cells #[] 5)) w.heap.size 5 (.slice (some ⟨w.heap.size, 0, none⟩) 0 0) []) := World.ownsRow_lit (base := w.heap.size) (e := 5) (size := 1) w #[] 0 (Nat.le_refl _) (by simp [maxLen]) rfl
    clear hm AL
    go_enter Try.func61, Try.ntmps61
    go_wp2_with (first
      | (at_builtin; refine wpList_appB _ (o := ⟨some 23, _, _, _, _, _⟩) rfl (.tmp 18) (.tmp 22) 25 rfl w 5 Try.infoBy Try.underlying25 _ _ [] B rfl rfl O1.out (HV.out.below HAL.out) (by simp; omega) HAL.out ?_; intro v6 w6 own6 b6; have O6 : Hid (OwnB w6 w.heap.size 5 v6 B) := own6; have B6 := Lib.hid b6; obtain ⟨A6, c6, rfl, _, _⟩ := O6.out.shape; clear own6 b6)
      | (at_builtin; refine wpList_appB _ (o := ⟨some 25, _, _, _, _, _⟩) rfl (.tmp 23) (.tmp 24) 25 rfl w 5 Try.infoBy Try.underlying25 _ _ B b rfl rfl O6.out (HU.out.below B6.out) (by omega) B6.out ?_; intro v7 w7 own7 b7; have O7 : Hid (OwnB w7 w.heap.size 5 v7 m) := HM.out ▸ own7; have B7 := Lib.hid b7; have R7 := Lib.hid (HR.out.kept b7); have z0 := R7.out.frozen 0; have d0 : w7.cell? ⟨r, 0, none⟩ = some (.slice A B.length c) := R7.out.cell 0; obtain ⟨A7, c7, rfl, _, _⟩ := O7.out.shape; clear own7 b7))
    go_end0
    rw [E.out]
    have hg := grown_setCell w7 r 0 (.slice A7 m.length c7)
    exact ⟨rfl, ⟨_, m, R7.out.fst _, O7.out.bs.turn R7.out (no_u8 (HV.out.below B7.out) 0) hg, fun _ => rfl, (U8At.of O7.out).turn R7.out (by decide) hg, fun k hk hs => by have := (World.ownsRow.lt O7.out k hk).1; have := HS.out k hs; omega⟩, (grown_any B7.out (some r)).trans hg⟩
  · have hd : decide (y = 0) = false := by simp [hy]
    go_enter Try.func61, Try.ntmps61
    go_wp2
    refine bodyPost_ret (results_none rfl _ _ _) rfl ?_
    refine ⟨rfl, ?_, World.grownBy.refl _ _⟩
    unfold St.put
    rw [if_neg hy]
    exact ⟨_, B, HR.out, HV.out, HB.out, HU8.out, HS5.out⟩

theorem highI_num (n : Nat) (z : Int) (hz : isNum z = true) : highI n z = (lowB n z.toNat).reverse ∧ ofHighB ((highI n z).take 8) = n % 256 ^ z.toNat ∧ (highI n z).length ≤ 8 := by
  have h8 := inNum_shape z hz
  have e : highI n z = (lowB n z.toNat).reverse := by unfold highI lowI; rw [if_pos (by omega)]
  have hl : (lowB n z.toNat).reverse.length = z.toNat := high_length n _
  refine ⟨e, ?_, by rw [e, hl]; omega⟩
  rw [e, List.take_of_length_le (by rw [hl]; omega)]
  have e2 : ofHighB (lowB n z.toNat).reverse = ofLowB (lowB n z.toNat).reverse.reverse := rfl
  rw [e2, List.reverse_reverse, ofLowB_lowB]

set_option maxHeartbeats 1000000 in
theorem roNumber_any (w : World) (S : Nat → Prop) (r : Nat) (s : St) (n : Nat) (z : Int) (hn : n < 18446744073709551616) (h : RoAt w r s S) (hl : s.l.length ≤ 900000000) (hS : ∀ k, S k → k < w.heap.size) :
   
    Calls Try.prog 31 #[.pointer (some ⟨r, 0, none⟩), .int .u64 (n : Int), .int .i64 z] w fun e w' => e = .returned (.tuple #[]) ∧ RoAt w' r (s.wNum n z) S ∧ w.grownBy w' (some r) := by
  have HH := Lib.hid h
  have HS := Lib.hid hS
  clear hS
  have HZ : Hid (∀ w, Calls Try.prog 50 #[.int .i64 z] w fun e w' => e = .returned (.bool (isNum z)) ∧ w = w') := fun w => refSize_any w z
  have HX := Lib.hid (fun w h => roAdd_err w S r s 51 (by decide) h)
  clear h
  by_cases hz : isNum z = true
  · obtain ⟨e1, e2, e3⟩ := highI_num n z hz
    have h8 := inNum_shape z hz
    have HN : Hid (∀ w, Calls Try.prog 60 #[.int .u64 (n : Int), .int .i64 z] w (RetBs w (highI n z))) := fun w => refHigh_any w n hn z (by omega)
    obtain ⟨hd, hhd⟩ : ∃ hd, hd = highI n z := ⟨_, rfl⟩
    rw [← hhd] at HN e1 e2 e3
    have HP := Lib.hid (fun w u h hu hs => roAdd_ok w S r s u hd h hu (by omega) hs)
    obtain ⟨M, hM⟩ : ∃ M, M = ofHighB (hd.take 8) := ⟨_, rfl⟩
    have HO : Hid (∀ w v, Bs w v hd → Calls Try.prog 52 #[v] w fun e w' => e = .returned (.int .u64 (M : Int)) ∧ w = w') := fun w v h => by rw [hM]; exact refOfHigh_any w v hd h
    rw [← hM] at e2
    by_cases hlt : n < 256 ^ z.toNat
    · have E : Hid (s.wNum n z = s.put hd) := by show _ = _; unfold St.wNum; rw [if_pos ⟨hz, hlt⟩, e1]
      rw [Nat.mod_eq_of_lt hlt] at e2
      have hdq : decide ((M : Int) = (n : Int)) = true := by simp [e2]
      rw [hz] at HZ
      subst e2
      clear hM hhd e1 hz hlt h8
      go_enter Try.func31, Try.ntmps31
      go_wp2_with fail
      refine (HZ.out _).mono ?_
      intro e w1 hh
      obtain ⟨he, hw⟩ := hh
      subst he hw
      go_wp2_with fail
      refine (HN.out _).mono ?_
      intro e w1 hh
      obtain ⟨u1, he, hu1, b1⟩ := hh
      subst he
      have U1 := Lib.hid hu1
      have B1 := Lib.hid b1
      obtain ⟨A1, c1, rfl, _, _, _⟩ := hu1
      clear b1
      go_wp2_with fail
      refine (HO.out _ _ U1.out).mono ?_
      intro e w1' hh
      obtain ⟨he, hw⟩ := hh
      subst he hw
      go_wp2_with fail
      refine (HN.out _).mono ?_
      intro e w2 hh
      obtain ⟨u2, he, hu2, b2⟩ := hh
      subst he
      have U2 := Lib.hid hu2
      have B2 := Lib.hid (below_size B1.out b2)
      obtain ⟨A2, c2, rfl, _, _, _⟩ := hu2
      clear b2
      go_wp2_with fail
      refine (HP.out _ _ (HH.out.kept B2.out) U2.out (fun k hk => Nat.lt_of_lt_of_le (HS.out k hk) B2.out.size)).mono ?_
      intro e w3 hh
      obtain ⟨he, h3, g3⟩ := hh
      subst he
      have H3 := Lib.hid h3
      have G3 := Lib.hid g3
      clear h3 g3
      go_wp2
      go_end0
      exact ⟨rfl, by rw [E.out]; exact H3.out, (grown_any B2.out (some r)).trans G3.out⟩
    · have E : Hid (s.wNum n z = s.fail 51) := by show _ = _; unfold St.wNum; rw [if_neg (fun h => hlt h.2)]
      have hne : M ≠ n := by
        have := Nat.mod_lt n (show 256 ^ z.toNat > 0 from Nat.pos_of_ne_zero (by simp))
        omega
      have hdq : decide ((M : Int) = (n : Int)) = false := by simp; omega
      rw [hz] at HZ
      clear hM hhd e1 hz hlt h8 e2
      go_enter Try.func31, Try.ntmps31
      go_wp2_with fail
      refine (HZ.out _).mono ?_
      intro e w1 hh
      obtain ⟨he, hw⟩ := hh
      subst he hw
      go_wp2_with fail
      refine (HN.out _).mono ?_
      intro e w1 hh
      obtain ⟨u1, he, hu1, b1⟩ := hh
      subst he
      have U1 := Lib.hid hu1
      have B1 := Lib.hid b1
      obtain ⟨A1, c1, rfl, _, _, _⟩ := hu1
      clear b1
      go_wp2_with fail
      refine (HO.out _ _ U1.out).mono ?_
      intro e w1' hh
      obtain ⟨he, hw⟩ := hh
      subst he hw
      go_wp2_with fail
      refine (HX.out _ (HH.out.kept B1.out)).mono ?_
      intro e w3 hh
      obtain ⟨he, h3, g3⟩ := hh
      subst he
      have H3 := Lib.hid h3
      have G3 := Lib.hid g3
      clear h3 g3
      go_wp2
      refine bodyPost_ret (results_none rfl _ _ _) rfl ?_
      exact ⟨rfl, by rw [E.out]; exact H3.out, (grown_any B1.out (some r)).trans G3.out⟩
  · have E : Hid (s.wNum n z = s.fail 51) := by show _ = _; unfold St.wNum; rw [if_neg (fun h => hz h.1)]
    have hz : isNum z = false := by simpa using hz
    rw [hz] at HZ
    clear hz
    go_enter Try.func31, Try.ntmps31
    go_wp2_with fail
    refine (HZ.out _).mono ?_
    intro e w1 hh
    obtain ⟨he, hw⟩ := hh
    subst he hw
    go_wp2_with fail
    refine (HX.out _ HH.out).mono ?_
    intro e w2 hh
    obtain ⟨he, h2, g2⟩ := hh
    subst he
    have H2 := Lib.hid h2
    have G2 := Lib.hid g2
    clear h2 g2
    go_wp2
    refine bodyPost_ret (results_none rfl _ _ _) rfl ?_
    exact ⟨rfl, by rw [E.out]; exact H2.out, G2.out⟩

theorem highI_two (n : Nat) : highI n 2 = (lowB n 2).reverse := by
  unfold highI lowI
  rw [if_pos (by omega)]
  rfl
set_option maxHeartbeats 1000000 in
theorem roBytes_any (w : World) (S : Nat → Prop) (r : Nat) (s : St) (u : Value) (b : List UInt8) (h : RoAt w r s S) (hu : Bs w u b) (hl : s.l.length ≤ 900000000) (hS : ∀ k, S k → k < w.heap.size) :
   
    Calls Try.prog 33 #[.pointer (some ⟨r, 0, none⟩), u] w fun e w' => e = .returned (.tuple #[]) ∧ RoAt w' r (s.wByt b) S ∧ w.grownBy w' (some r) := by
  have HH := Lib.hid h
  have HS := Lib.hid hS
  clear hS
  have HU := Lib.hid hu
  obtain ⟨A, c, rfl, h1, h2, _⟩ := hu
  unfold maxLen at h2
  clear h
  by_cases hb : b.length > 4000
  · have hb2 : (4000 : Int) < (b.length : Int) := by omega
    have E : Hid (s.wByt b = s.fail 2) := by show _ = _; unfold St.wByt; rw [if_pos hb]
    have HX := Lib.hid (fun w h => roAdd_err w S r s 2 (by decide) h)
    go_enter Try.func33, Try.ntmps33
    go_wp2_with fail
    refine (HX.out _ HH.out).mono ?_
    intro e w2 hh
    obtain ⟨he, h2, g2⟩ := hh
    subst he
    have H2 := Lib.hid h2
    have G2 := Lib.hid g2
    clear h2 g2
    go_wp2
    refine bodyPost_ret (results_none rfl _ _ _) rfl ?_
    exact ⟨rfl, by rw [E.out]; exact H2.out, G2.out⟩
  · have hb2 : ¬ ((4000 : Int) < (b.length : Int)) := by omega
    have hw : IntKind.u64.wrap (b.length : Int) = (b.length : Int) := by rw [IntKind.wrap_u64]; omega
    have E : Hid (s.wByt b = s.put ((lowB b.length 2).reverse ++ b)) := by show _ = _; unfold St.wByt; rw [if_neg hb, St.put_put]
    have HN : Hid (∀ w, Calls Try.prog 60 #[.int .u64 (b.length : Int), .int .i64 2] w fun e w' => ∃ v, e = .returned v ∧ OwnB w' w.heap.size 5 v (lowB b.length 2).reverse ∧ Below w.heap.size w w') := fun w => by
      have h := refHigh_own w b.length (by omega) 2 (by omega)
      rwa [highI_two] at h
    have LN : Hid ((lowB b.length 2).reverse.length = 2) := high_length _ _
    obtain ⟨hd, hhd⟩ : ∃ hd, hd = (lowB b.length 2).reverse := ⟨_, rfl⟩
    rw [← hhd] at E HN LN
    obtain ⟨m, hm⟩ : ∃ m, m = hd ++ b := ⟨_, rfl⟩
    have HM := Lib.hid hm
    have hml : m.length ≤ 4002 := by rw [hm, List.length_append, LN.out]; omega
    rw [← hm] at E
    have HP := Lib.hid (fun w u h hu hs => roAdd_ok w S r s u m h hu (by omega) hs)
    clear hhd hm
    go_enter Try.func33, Try.ntmps33
    go_wp2_with fail
    refine (HN.out _).mono ?_
    intro e w1 hh
    obtain ⟨u1, he, ho1, b1⟩ := hh
    subst he
    have O1 := Lib.hid ho1
    have B1 := Lib.hid b1
    obtain ⟨A1, c1, rfl, _, _⟩ := ho1.shape
    clear ho1 b1
    go_wp2_with (at_builtin; refine wpList_appB _ (o := ⟨some 15, _, _, _, _, _⟩) rfl (.tmp 13) (.tmp 14) 25 rfl w 5 Try.infoBy Try.underlying25 _ _ hd b rfl rfl O1.out (HU.out.below B1.out) (by have := LN.out; omega) B1.out ?_; intro v7 w7 own7 b7; have O7 : Hid (OwnB w7 w.heap.size 5 v7 m) := HM.out ▸ own7; have B7 := Lib.hid b7; obtain ⟨A7, c7, rfl, _, _⟩ := O7.out.shape; clear own7 b7)
    refine (HP.out _ _ (HH.out.kept B7.out) O7.out.bs (fun k hk => Nat.lt_of_lt_of_le (HS.out k hk) B7.out.size)).mono ?_
    intro e w3 hh
    obtain ⟨he, h3, g3⟩ := hh
    subst he
    have H3 := Lib.hid h3
    have G3 := Lib.hid g3
    clear h3 g3
    go_wp2
    go_end0
    exact ⟨rfl, by rw [E.out]; exact H3.out, (grown_any B7.out (some r)).trans G3.out⟩
end Go.Proofs.Ytjhhpakaemnemaa
end
section
namespace Go.Proofs.Ytjhhpakaemnemaa
open Go.RowKit
set_option linter.unusedVariables false
set_option maxRecDepth 20000

set_option maxHeartbeats 2000000 in
theorem roKeys_any (w : World) (S : Nat → Prop) (r : Nat) (s : St) (u : Value) (ls : List (List UInt8)) (h : RoAt w r s S) (hu : Kl w u ls) (hl : s.l.length ≤ 900000000) (hS : ∀ k, S k → k < w.heap.size) :
   
    Calls Try.prog 35 #[.pointer (some ⟨r, 0, none⟩), u] w fun e w' => e = .returned (.tuple #[]) ∧ RoAt w' r (s.wKey ls) S ∧ w.grownBy w' (some r) := by
  have HH := Lib.hid h
  have HS := Lib.hid hS
  clear hS
  obtain ⟨A, c, rfl, h1, h2, h4, h3⟩ := hu
  unfold maxLen at h2
  have H32 := Lib.hid h4
  clear h h4
  by_cases hb : ls.length > 100
  · have hb2 : (100 : Int) < (ls.length : Int) := by omega
    have E : Hid (s.wKey ls = s.fail 2) := by show _ = _; unfold St.wKey; rw [if_pos hb]
    have HX := Lib.hid (fun w h => roAdd_err w S r s 2 (by decide) h)
    clear h3
    go_enter Try.func35, Try.ntmps35
    go_wp2_with fail
    refine (HX.out _ HH.out).mono ?_
    intro e w2 hh
    obtain ⟨he, h2, g2⟩ := hh
    subst he
    have H2 := Lib.hid h2
    have G2 := Lib.hid g2
    clear h2 g2
    go_wp2
    refine bodyPost_ret (results_none rfl _ _ _) rfl ?_
    exact ⟨rfl, by rw [E.out]; exact H2.out, G2.out⟩
  · have hb2 : ¬ ((100 : Int) < (ls.length : Int)) := by omega
    have hw : IntKind.u64.wrap (ls.length : Int) = (ls.length : Int) := by rw [IntKind.wrap_u64]; omega
    have E : Hid (s.wKey ls = s.put ((lowB ls.length 2).reverse ++ ls.flatten)) := by show _ = _; unfold St.wKey; rw [if_neg hb, St.put_put]
    have HN : Hid (∀ w, Calls Try.prog 60 #[.int .u64 (ls.length : Int), .int .i64 2] w fun e w' => ∃ v, e = .returned v ∧ OwnB w' w.heap.size 5 v (lowB ls.length 2).reverse ∧ Below w.heap.size w w') := fun w => by
      have h := refHigh_own w ls.length (by omega) 2 (by omega)
      rwa [highI_two] at h
    have LN : Hid ((lowB ls.length 2).reverse.length = 2) := high_length _ _
    obtain ⟨hd, hhd⟩ : ∃ hd, hd = (lowB ls.length 2).reverse := ⟨_, rfl⟩
    rw [← hhd] at E HN LN
    have LT : Hid (∀ j, j ≤ ls.length → (hd ++ (ls.take j).flatten).length = 2 + j * 32) := fun j hj => by
      rw [List.length_append, LN.out, flat_len32 _ (fun l hl => H32.out l (List.mem_of_mem_take hl)), List.length_take_of_le hj]
    have HBY := Lib.hid (fun w l hl => refBytes_any w l hl)
    clear hhd
    go_enter Try.func35, Try.ntmps35
    go_wp2_with fail
    refine (HN.out _).mono ?_
    intro e w1 hh
    obtain ⟨u1, he, ho1, b1⟩ := hh
    subst he
    have O1 : Hid (OwnB w1 w.heap.size 5 u1 (hd ++ (ls.take 0).flatten)) := by show OwnB _ _ _ _ _; rw [List.take_zero, List.flatten_nil, List.append_nil]; exact ho1
    have B1 := Lib.hid b1
    obtain ⟨A1, c1, rfl, _, _⟩ := ho1.shape
    clear ho1 b1 HN
    go_wp2_with fail
    go_loopw [4, 5] (fun v i wr => ∃ j : Nat, j ≤ ls.length ∧ i = .int .i64 (j : Int) ∧ OwnB wr w.heap.size 5 v (hd ++ (ls.take j).flatten) ∧ Below w.heap.size w wr) (fun _ i _ => ls.length - (intOf i).toNat)
    case atStart => exact ⟨0, by omega, rfl, O1.out, B1.out⟩
    case round =>
      clear O1 B1
      obtain ⟨j, hj, rfl, hO, hB⟩ := hrel
      have HO := Lib.hid hO
      have HB := Lib.hid hB
      obtain ⟨VA, vc, hv4, _, _⟩ := hO.shape
      clear hO hB
      by_cases hlt : j < ls.length
      · have hlt2 : (j : Int) < (ls.length : Int) := by omega
        have hw1 : IntKind.i64.wrap ((j : Int) + 1) = (j : Int) + 1 := IntWalk.i64_in _ (by omega)
        have hq0 : ¬ ((j : Int) < 0) := by omega
        obtain ⟨l, hll⟩ : ∃ l, ls[j]? = some l := ⟨_, List.getElem?_eq_getElem hlt⟩
        have L32 : Hid (l.length = 32) := H32.out l (List.mem_of_getElem? hll)
        have HT : Hid (hd ++ (ls.take j).flatten ++ l = hd ++ (ls.take (j + 1)).flatten) := by
          show _ = _
          rw [List.take_add_one, hll, List.flatten_append, List.append_assoc]
          simp
        obtain ⟨b, off, rfl, hr⟩ := h3 (by omega)
        have HR : Hid (wr.rangeAt b (off + j * 32) (cellsB l)) := fun i u hu => by
          have h1 := hr j l hll i u hu
          exact (HB.out.cell (p := ⟨b, off + j * 32 + i, none⟩) (World.block_lt_of_cell? w _ h1)).trans h1
        have HLJ := Lib.hid (LT.out j (by omega))
        obtain ⟨pre, hpre⟩ : ∃ pre, pre = hd ++ (ls.take j).flatten := ⟨_, rfl⟩
        rw [← hpre] at HO HT HLJ hv4
        clear hr hll h3 LT hpre
        subst hv4
        go_wp2_with (with_reducible refine wpList_loadK (o := ⟨some 25, _, _, _, _, _⟩) rfl 52 (.tmp 24) rfl b (off + j * 32) (by with_unfolding_all rfl) l (.array 32 5) (by with_unfolding_all exact HR.out) Try.underlying52 rfl (Try.sizeKeyM l L32.out) ?_)
        refine (HBY.out wr l L32.out).mono ?_
        intro e w2 hh
        obtain ⟨u2, he, hu2, b2⟩ := hh
        subst he
        have U2 := Lib.hid hu2
        have O2 := Lib.hid (HO.out.below b2)
        have B2 := Lib.hid (HB.out.trans (b2.mono HB.out.size))
        obtain ⟨A2, c2, rfl, _, _, _⟩ := hu2
        clear b2 HO HB HR HBY
        go_wp2_with (at_builtin; refine wpList_appB _ (o := ⟨some 27, _, _, _, _, _⟩) rfl (.tmp 21) (.tmp 26) 25 rfl w 5 Try.infoBy Try.underlying25 _ _ pre l rfl rfl O2.out U2.out (by have := HLJ.out; have := L32.out; omega) B2.out ?_; intro v7 w7 own7 b7; have O7 : Hid (OwnB w7 w.heap.size 5 v7 (hd ++ (ls.take (j + 1)).flatten)) := HT.out ▸ own7; have B7 := Lib.hid b7; clear own7 b7)
        go_roundw
        case rel => exact ⟨j + 1, by omega, by go_num, O7.out, B7.out⟩
        case measure => simp [intOf]; omega
      · have hj2 : j = ls.length := by omega
        subst hj2
        have HLJ := LT.out ls.length (by omega)
        rw [List.take_length] at HO HLJ hv4
        obtain ⟨m, hm⟩ : ∃ m, m = hd ++ ls.flatten := ⟨_, rfl⟩
        rw [← hm] at HO HLJ hv4 E
        have HP := Lib.hid (fun w u h hu hs => roAdd_ok w S r s u m h hu (by omega) hs)
        clear hm HLJ LT
        subst hv4
        go_wp2_with fail
        refine (HP.out _ _ (HH.out.kept HB.out) HO.out.bs (fun k hk => Nat.lt_of_lt_of_le (HS.out k hk) HB.out.size)).mono ?_
        intro e w3 hh
        obtain ⟨he, h3, g3⟩ := hh
        subst he
        have H3 := Lib.hid h3
        have G3 := Lib.hid g3
        clear h3 g3
        go_wp2
        go_end0
        exact ⟨rfl, by rw [E.out]; exact H3.out, (grown_any HB.out (some r)).trans G3.out⟩

/-- What Done hands back. -/
def St.out (s : St) : List UInt8 := if s.e = 0 then s.l else []
set_option maxHeartbeats 1000000 in
theorem roDone_any (w : World) (S : Nat → Prop) (r : Nat) (s : St) (h : RoAt w r s S) :
    Calls Try.prog 37 #[.pointer (some ⟨r, 0, none⟩)] w fun e w' => ∃ v, e = .returned (.tuple #[v, .int .i64 s.e]) ∧ Bs w' v s.out ∧ Below w.heap.size w w' := by
  obtain ⟨l, y⟩ := s
  obtain ⟨v, B, hr, hv, hB, _, _⟩ := h
  have c0 : w.cell? ⟨r, 0, none⟩ = some v := hr.cell 0
  have c1 : w.cell? ⟨r, 1, none⟩ = some (.int .i64 y) := hr.cell 1
  have HV := Lib.hid hv
  obtain ⟨A, c, rfl, _, _, _⟩ := hv
  simp only at hB c0 c1
  clear hr
  by_cases hy : y = 0
  · subst hy
    have hBl : B = l := hB rfl
    subst hBl
    have E : Hid ((St.mk B 0).out = B) := if_pos rfl
    clear hB
    go_enter Try.func37, Try.ntmps37
    go_wp2
    go_ret2
    exact ⟨_, rfl, by rw [E.out]; exact HV.out, Below.refl _ _⟩
  · have hd : decide (y = 0) = false := by simp [hy]
    have E : Hid ((St.mk l y).out = []) := if_neg hy
    clear hB
    go_enter Try.func37, Try.ntmps37
    go_wp2
    go_region
    all_goals
      go_wp2
      go_ret2
      exact ⟨_, rfl, by rw [E.out]; exact Bs.nil _, (Below.refl _ _).drew⟩
/-- Where there is an error nothing is written. -/
def St.Inv (s : St) : Prop := s.e ≠ 0 → s.l = []
theorem inv_fail (s : St) (x : Int) (h : s.Inv) : (s.fail x).Inv := by
  unfold St.fail St.Inv
  split
  · intro _; rfl
  · exact h
theorem inv_put (s : St) (b : List UInt8) (h : s.Inv) : (s.put b).Inv := by
  unfold St.put St.Inv
  split
  · intro h0; exact absurd rfl h0
  · exact h
theorem out_inv (s : St) (h : s.Inv) : s.out = s.l := by
  unfold St.out
  split
  · rfl
  · rename_i h0; exact (h h0).symm
end Go.Proofs.Ytjhhpakaemnemaa
end
section
namespace Go.Proofs.Ytjhhpakaemnemaa
open Go.RowKit
set_option linter.unusedVariables false
set_option maxRecDepth 20000

theorem Zs.lit (w : World) (zs : List Int) (c : Array Value) (hc : c.toList = zs.map (Value.int .i64)) (n : Nat) (hn : n = zs.length) (hm : n ≤ 1000) : Zs (w.alloc (.cells c 3)) (.slice (some ⟨w.heap.size, 0, none⟩) n n) zs := by
  subst hn
  refine ⟨_, _, rfl, Nat.le_refl _, by unfold maxLen; omega, fun _ => ⟨w.heap.size, 0, rfl, fun j hj => ?_⟩⟩
  rw [Nat.zero_add, (RowAt.new w 3 c).cell, ← Array.getElem?_toList, hc, List.getElem?_map, List.getElem?_eq_getElem hj]
  rfl
theorem Its.one (w : World) (x : It) (bx lx : Value) (h1 : Bs w bx x.b) (h2 : Kl w lx x.l) (h3 : x.n < 18446744073709551616) (c : Array Value) (hc : c.toList = itC x bx lx) : Its (w.alloc (.cells c 60)) (.slice (some ⟨w.heap.size, 0, none⟩) 1 1) [x] := by
  have hb := alloc_below w (.cells c 60)
  refine ⟨fun _ => bx, fun _ => lx, ⟨_, _, rfl, Nat.le_refl _, by simp [maxLen], fun _ => ⟨w.heap.size, 0, rfl, fun j hj i u hu => ?_⟩⟩, fun j y hy => ?_⟩
  · obtain rfl : j = 0 := by have : [x].length = 1 := rfl; omega
    rw [(RowAt.new w 60 c).cell, ← Array.getElem?_toList, hc]
    simpa using hu
  · have hj := (List.getElem?_eq_some_iff.1 hy).1
    obtain rfl : j = 0 := by have : [x].length = 1 := rfl; omega
    obtain rfl : x = y := by simpa using hy
    exact ⟨h1.below hb, h2.below hb, h3⟩
theorem Its.two (w : World) (x y : It) (bx lx byv ly : Value) (h1 : Bs w bx x.b) (h2 : Kl w lx x.l) (h3 : x.n < 18446744073709551616) (k1 : Bs w byv y.b) (k2 : Kl w ly y.l) (k3 : y.n < 18446744073709551616) (c : Array Value) (hc : c.toList = itC x bx lx ++ itC y byv ly) : Its (w.alloc (.cells c 60)) (.slice (some ⟨w.heap.size, 0, none⟩) 2 2) [x, y] := by
  have hb := alloc_below w (.cells c 60)
  refine ⟨fun j => if j = 0 then bx else byv, fun j => if j = 0 then lx else ly, ⟨_, _, rfl, Nat.le_refl _, by simp [maxLen], fun _ => ⟨w.heap.size, 0, rfl, fun j hj i u hu => ?_⟩⟩, fun j z hy => ?_⟩
  · have hj2 : j < 2 := hj
    have hi : i < 4 := by have := (List.getElem?_eq_some_iff.1 hu).1; exact this
    rw [(RowAt.new w 60 c).cell, ← Array.getElem?_toList, hc]
    match j, hj2, hu with
    | 0, _, hu => rw [Nat.zero_mul, Nat.add_zero, Nat.zero_add, List.getElem?_append_left (by exact hi)]; simpa using hu
    | 1, _, hu => rw [List.getElem?_append_right (by show 4 ≤ _; omega), show 0 + 1 * 4 + i - (itC x bx lx).length = i by show 0 + 1 * 4 + i - 4 = i; omega]; simpa using hu
  · have hj := (List.getElem?_eq_some_iff.1 hy).1
    have hj2 : j < 2 := hj
    match j, hj2, hy with
    | 0, _, hy =>
      obtain rfl : x = z := by simpa using hy
      exact ⟨h1.below hb, h2.below hb, h3⟩
    | 1, _, hy =>
      obtain rfl : y = z := by simpa using hy
      exact ⟨k1.below hb, k2.below hb, k3⟩
def exItems : List It := [⟨2, 258, [], []⟩, ⟨9, 0, [7, 8], []⟩]
def exBytes : List UInt8 := [1, 2, 0, 2, 7, 8]
theorem ex_enc (w : World) (v : Value) (h : Its w v exItems) : Calls Try.prog 11 #[v] w fun e w' => ∃ u, e = .returned (.tuple #[u, .int .i64 0]) ∧ Bs w' u exBytes ∧ Below w.heap.size w w' :=
  (encode_any w v exItems h (by decide)).mono fun e w' ⟨hb, hr⟩ => by
    rcases hr with ⟨h1, _⟩ | ⟨_, u, he, ho⟩
    · exact absurd h1 (by decide)
    · exact ⟨u, he, ho.bs, hb⟩
theorem ex_wrong (w : World) (v : Value) (h : Its w v [⟨1, 256, [], []⟩]) : Calls Try.prog 11 #[v] w fun e w' => ∃ A c, e = .returned (.tuple #[.slice A 0 c, .int .i64 51]) ∧ Below w.heap.size w w' :=
  (encode_any w v _ h (by decide)).mono fun e w' ⟨hb, hr⟩ => by
    rcases hr with ⟨h1, _⟩ | ⟨_, u, he, ho⟩
    · exact absurd h1 (by decide)
    · obtain ⟨A, c, rfl, _⟩ := ho.bs
      exact ⟨A, c, he, hb⟩
theorem ex_dec (w : World) (v u : Value) (hz : Zs w v [2, 9]) (hu : Bs w u exBytes) : Calls Try.prog 15 #[v, u] w fun e w' => ∃ v', e = .returned (.tuple #[v', .int .i64 0]) ∧ Its w' v' exItems ∧ Below w.heap.size w w' :=
  (decode_any w v u _ _ hz hu (by decide) (by decide)).mono fun e w' ⟨hb, hr⟩ => by
    rcases hr with ⟨h1, _⟩ | ⟨_, ⟨h1, _⟩ | ⟨_, v', he, hi⟩⟩
    · exact absurd h1 (by decide)
    · exact absurd (show _ = _ by decide) h1
    · have e2 : decL [2, 9] ⟨exBytes, 0⟩ = exItems := by rfl
      rw [e2] at hi
      exact ⟨v', he, hi, hb⟩
theorem ex_tail (w : World) (v u : Value) (hz : Zs w v [2]) (hu : Bs w u exBytes) : Calls Try.prog 15 #[v, u] w fun e w' => e = .returned (.tuple #[.slice none 0 0, .int .i64 50]) ∧ Below w.heap.size w w' :=
  (decode_any w v u _ _ hz hu (by decide) (by decide)).mono fun e w' ⟨hb, hr⟩ => by
    rcases hr with ⟨h1, _⟩ | ⟨_, ⟨h1, he⟩ | ⟨h1, _⟩⟩
    · exact absurd h1 (by decide)
    · exact ⟨he, hb⟩
    · exact absurd h1 (by decide)
theorem ex_short (w : World) (v u : Value) (hz : Zs w v [2, 9, 1]) (hu : Bs w u exBytes) : Calls Try.prog 15 #[v, u] w fun e w' => e = .returned (.tuple #[.slice none 0 0, .int .i64 3]) ∧ Below w.heap.size w w' :=
  (decode_any w v u _ _ hz hu (by decide) (by decide)).mono fun e w' ⟨hb, hr⟩ => by
    rcases hr with ⟨h1, _⟩ | ⟨_, ⟨h1, he⟩ | ⟨h1, _⟩⟩
    · exact absurd h1 (by decide)
    · exact ⟨he, hb⟩
    · exact absurd h1 (by decide)

set_option maxHeartbeats 4000000 in
theorem awake_true (w : World) : Calls Try.prog 9 #[] w (RetV w (.bool true)) := by
  have H1 := Lib.hid (fun w v h => ex_enc w v h)
  have H2 := Lib.hid (fun w v u hz hu => ex_dec w v u hz hu)
  have H3 := Lib.hid (fun w v u hz hu => ex_tail w v u hz hu)
  have H4 := Lib.hid (fun w v u hz hu => ex_short w v u hz hu)
  have H5 := Lib.hid (fun w v h => ex_wrong w v h)
  go_enter Try.func9, Try.ntmps9
  have I1 : Hid (Its ((w.alloc (.cells #[.int .u8 7, .int .u8 8] 5)).alloc (.cells #[.int .i64 2, .int .u64 258, .slice none 0 0, .slice none 0 0, .int .i64 9, .int .u64 0, .slice (some ⟨w.heap.size, 0, none⟩) 2 2, .slice none 0 0] 60)) (.slice (some ⟨w.heap.size + 1, 0, none⟩) 2 2) exItems) := by
    have h := Its.two (w.alloc (.cells #[.int .u8 7, .int .u8 8] 5)) ⟨2, 258, [], []⟩ ⟨9, 0, [7, 8], []⟩ (.slice none 0 0) (.slice none 0 0) (.slice (some ⟨w.heap.size, 0, none⟩) 2 2) (.slice none 0 0) (Bs.nil _) (Kl.nil _) (by decide) (Bs.lit2 w 5 7 8 7 8 rfl rfl) (Kl.nil _) (by decide) #[.int .i64 2, .int .u64 258, .slice none 0 0, .slice none 0 0, .int .i64 9, .int .u64 0, .slice (some ⟨w.heap.size, 0, none⟩) 2 2, .slice none 0 0] rfl
    rw [World.size_alloc] at h
    exact h
  have B1 : Hid (Below w.heap.size w ((w.alloc (.cells #[.int .u8 7, .int .u8 8] 5)).alloc (.cells #[.int .i64 2, .int .u64 258, .slice none 0 0, .slice none 0 0, .int .i64 9, .int .u64 0, .slice (some ⟨w.heap.size, 0, none⟩) 2 2, .slice none 0 0] 60))) := below_size (alloc_below _ _) (alloc_below _ _)
  go_wp2_with fail
  refine (H1.out _ _ I1.out).mono ?_
  intro e w2 hh
  obtain ⟨u2, he, hu2, b2⟩ := hh
  subst he
  have B2 := Lib.hid (below_size B1.out b2)
  have AL2 := alloc_below w2 (.cells #[.int .u8 1, .int .u8 2, .int .u8 0, .int .u8 2, .int .u8 7, .int .u8 8] 5)
  have U2 := Lib.hid (hu2.below AL2)
  have E2 : Hid (Bs (w2.alloc (.cells #[.int .u8 1, .int .u8 2, .int .u8 0, .int .u8 2, .int .u8 7, .int .u8 8] 5)) (.slice (some ⟨w2.heap.size, 0, none⟩) 6 6) exBytes) := Bs.lit w2 5 exBytes _ rfl (by unfold maxLen; decide)
  have B3 := Lib.hid (below_size B2.out AL2)
  obtain ⟨A2, c2, rfl, _, _, _⟩ := hu2
  clear b2 I1 B1 B2 H1 AL2
  have HW3 : Hid ((w2.alloc (.cells #[.int .u8 1, .int .u8 2, .int .u8 0, .int .u8 2, .int .u8 7, .int .u8 8] 5)).heap.size = w2.heap.size + 1) := by show _ = _; rw [World.size_alloc]
  have AL3 := Lib.hid (alloc_below (w2.alloc (.cells #[.int .u8 1, .int .u8 2, .int .u8 0, .int .u8 2, .int .u8 7, .int .u8 8] 5)) (.cells #[.int .i64 2, .int .i64 9] 3))
  have Z3 : Hid (Zs ((w2.alloc (.cells #[.int .u8 1, .int .u8 2, .int .u8 0, .int .u8 2, .int .u8 7, .int .u8 8] 5)).alloc (.cells #[.int .i64 2, .int .i64 9] 3)) (.slice (some ⟨w2.heap.size + 1, 0, none⟩) 2 2) [2, 9]) := by
    show Zs _ _ _
    rw [← HW3.out]
    exact Zs.lit _ [2, 9] _ rfl 2 rfl (by omega)
  obtain ⟨g3, hg3⟩ : ∃ g3, g3 = w2.heap.size := ⟨_, rfl⟩
  have HG3 := Lib.hid hg3
  rw [← hg3] at E2
  clear hg3
  go_wp2_with fail
  rw [← HG3.out]
  have Z3' := Z3.out
  rw [← HG3.out] at Z3'
  refine (H2.out _ _ _ Z3' (E2.out.below AL3.out)).mono ?_
  intro e w4 hh
  obtain ⟨u4, he, hu4, b4⟩ := hh
  subst he
  have U4 := Lib.hid ((U2.out.below AL3.out).below b4)
  have E4 := Lib.hid ((E2.out.below AL3.out).below b4)
  have B4 := Lib.hid (below_size (below_size B3.out AL3.out) b4)
  have I4 := Lib.hid hu4
  clear b4 U2 E2 B3 AL3 Z3 Z3' HG3 HW3 H2
  obtain ⟨bv, lv, ⟨A4, c4, rfl, _, _, _⟩, _⟩ := hu4
  have AL4 := Lib.hid (alloc_below w4 (.cells #[.int .i64 2] 3))
  have Z4 : Hid (Zs (w4.alloc (.cells #[.int .i64 2] 3)) (.slice (some ⟨w4.heap.size, 0, none⟩) 1 1) [2]) := Zs.lit w4 [2] _ rfl 1 rfl (by omega)
  go_wp2_with fail
  refine (H3.out _ _ _ Z4.out (E4.out.below AL4.out)).mono ?_
  intro e w5 hh
  obtain ⟨he, b5⟩ := hh
  subst he
  have U5 := Lib.hid ((U4.out.below AL4.out).below b5)
  have E5 := Lib.hid ((E4.out.below AL4.out).below b5)
  have I5 := Lib.hid ((I4.out.below AL4.out).below b5)
  have B5 := Lib.hid (below_size (below_size B4.out AL4.out) b5)
  clear b5 U4 E4 B4 AL4 Z4 I4 H3
  have AL5 := Lib.hid (alloc_below w5 (.cells #[.int .i64 2, .int .i64 9, .int .i64 1] 3))
  have Z5 : Hid (Zs (w5.alloc (.cells #[.int .i64 2, .int .i64 9, .int .i64 1] 3)) (.slice (some ⟨w5.heap.size, 0, none⟩) 3 3) [2, 9, 1]) := Zs.lit w5 [2, 9, 1] _ rfl 3 rfl (by omega)
  go_wp2_with fail
  refine (H4.out _ _ _ Z5.out (E5.out.below AL5.out)).mono ?_
  intro e w6 hh
  obtain ⟨he, b6⟩ := hh
  subst he
  have U6 := Lib.hid ((U5.out.below AL5.out).below b6)
  have E6 := Lib.hid ((E5.out.below AL5.out).below b6)
  have I6 := Lib.hid ((I5.out.below AL5.out).below b6)
  have B6 := Lib.hid (below_size (below_size B5.out AL5.out) b6)
  clear b6 U5 E5 B5 AL5 Z5 I5 H4
  have AL6 := Lib.hid (alloc_below w6 (.cells #[.int .i64 1, .int .u64 256, .slice none 0 0, .slice none 0 0] 60))
  have Z6 : Hid (Its (w6.alloc (.cells #[.int .i64 1, .int .u64 256, .slice none 0 0, .slice none 0 0] 60)) (.slice (some ⟨w6.heap.size, 0, none⟩) 1 1) [⟨1, 256, [], []⟩]) := Its.one w6 ⟨1, 256, [], []⟩ (.slice none 0 0) (.slice none 0 0) (Bs.nil _) (Kl.nil _) (by decide) _ rfl
  go_wp2_with fail
  refine (H5.out _ _ Z6.out).mono ?_
  intro e w7 hh
  obtain ⟨A7, c7, he, b7⟩ := hh
  subst he
  have U7 := Lib.hid ((U6.out.below AL6.out).below b7)
  have E7 := Lib.hid ((E6.out.below AL6.out).below b7)
  have I7 := ((I6.out.below AL6.out).below b7)
  have B7 := Lib.hid (below_size (below_size B6.out AL6.out) b7)
  clear b7 U6 E6 B6 AL6 Z6 I6 H5
  obtain ⟨bv, lv, ⟨A4', c4', e4, _, _, hA4⟩, hI7⟩ := I7
  injection e4 with e4 _ e5
  subst e4 e5
  obtain ⟨g4, o4, rfl, hc4⟩ := hA4 (by decide)
  have d1 : w7.cell? ⟨g4, o4 + 1, none⟩ = some (.int .u64 258) := hc4 0 (by decide) 1 _ rfl
  have d2 : w7.cell? ⟨g4, o4 + 4 + 2, none⟩ = some (bv 1) := hc4 1 (by decide) 2 _ rfl
  have V7 := Lib.hid (hI7 1 _ rfl).1
  obtain ⟨A8, c8, hbv, _, _, _⟩ := (hI7 1 _ rfl).1
  rw [hbv] at d2 V7
  have hlen : exItems.length = 2 := rfl
  have hlen8 : (⟨9, 0, [7, 8], []⟩ : It).b.length = 2 := rfl
  rw [hlen]
  rw [hlen8] at d2 V7
  clear hc4 hI7 hbv hA4
  go_wp2_with fail
  refine (same_yes w7 _ _ exBytes U7.out E7.out).mono ?_
  intro e w8 hh
  obtain ⟨he, b8⟩ := hh
  subst he
  have f1 : w8.cell? ⟨g4, o4 + 1, none⟩ = some (.int .u64 258) := (b8.cell (World.block_lt_of_cell? w7 _ d1)).trans d1
  have f2 : w8.cell? ⟨g4, o4 + 4 + 2, none⟩ = some (.slice A8 2 c8) := (b8.cell (World.block_lt_of_cell? w7 _ d2)).trans d2
  have AL8 := alloc_below w8 (.cells #[.int .u8 7, .int .u8 8] 5)
  have V8 := Lib.hid ((V7.out.below b8).below AL8)
  have X8 : Hid (Bs (w8.alloc (.cells #[.int .u8 7, .int .u8 8] 5)) (.slice (some ⟨w8.heap.size, 0, none⟩) 2 2) [7, 8]) := Bs.lit2 w8 5 7 8 7 8 rfl rfl
  have B8 := Lib.hid (below_size (below_size B7.out b8) AL8)
  clear b8 AL8 d1 d2 V7 U7 E7 B7
  go_wp2_with fail
  refine (same_yes _ _ _ [7, 8] V8.out X8.out).mono ?_
  intro e w9 hh
  obtain ⟨he, b9⟩ := hh
  subst he
  have B9 := Lib.hid (below_size B8.out b9)
  clear b9
  go_wp2_with fail
  go_ret
  exact ⟨rfl, B9.out⟩
end Go.Proofs.Ytjhhpakaemnemaa
end
