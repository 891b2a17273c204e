/-
  Contracts of octets' and cablegramref01's functions on numbers. Conditions: as each theorem names them.
-/
import Derived.Test.YtdojaighchgghaaDoorB
namespace Go.Proofs.YtdojaighchgghaaDoor
open Go.RowKit
set_option linter.unusedVariables false
set_option maxRecDepth 20000



set_option maxHeartbeats 400000 in
theorem High_in (w : World) (n s : Nat) (hn : n < 18446744073709551616) (hs1 : 1 ≤ s) (hs2 : s ≤ 8) :
    Calls Tryd.prog 41 #[.int .u64 (n : Int), .int .i64 (s : Int)] w (RetBs w (lowB n s).reverse) := by
  obtain ⟨i0, hi, hz0, hz1, hz2⟩ := info_parts Tryd.infoB
  have hlen : (lowB n s).reverse.length = s := by rw [List.length_reverse, lowB_length]
  have HL := Lib.hid hlen
  clear hlen
  go_enter Tryd.func41, Tryd.ntmps41
  go_wp2_with (first
    | (go_at_call 61; refine (fits_yes _ _ (by omega) (by omega)).mono ?_; rintro e w' ⟨rfl, rfl⟩)
    | (refine wpList_make_full _ rfl (.tmp 10) (.tmp 10) 27 rfl w.heap.size 5 i0 (.int .u8 0) 1 Tryd.underlying27 hi hz0 hz1 .i64 .i64 _ _ s rfl rfl rfl rfl (by rw [hz2]; omega) (by unfold maxLen; omega) (Nat.le_refl _) ?_; intro w1 hown hgrow))
  rw [made_zeros] at hown
  have hown0 : w1.ownsRow w.heap.size 5 1 (.slice (some ⟨w.heap.size, 0, none⟩) s s) s (cellsB (partlyR (lowB n s).reverse 0)) := by
    rw [partlyR_zero, HL.out]; exact hown
  have hbel : Below w.heap.size w w1 := (Below.refl _ _).grown hgrow (Nat.le_refl _) (fun k h => by cases h)
  clear hown hgrow
  go_loopw [13] (fun i wr => ∃ k : Nat, k ≤ s ∧ i = .int .i64 k ∧ wr.ownsRow w.heap.size 5 1 (.slice (some ⟨w.heap.size, 0, none⟩) s s) s (cellsB (partlyR (lowB n s).reverse k)) ∧ Below w.heap.size w wr) (fun i _ => s - (intOf i).toNat)
  case atStart => exact ⟨0, Nat.zero_le _, rfl, hown0, hbel⟩
  case round =>
    obtain ⟨k, hk, rfl, hown, hb⟩ := hrel
    clear hown0 hbel
    by_cases hlt : k < s
    · obtain ⟨old, hcell⟩ := own_some hown (s - 1 - k) (by omega)
      have hfz := hown.frozenAt (s - 1 - k)
      have hput := own_put hown (s - 1 - k) (byteN n k)
      have hstep := partlyR_step (lowB n s).reverse k (by rw [HL.out]; omega)
      have hget : (lowB n s).reverse[(lowB n s).reverse.length - 1 - k]'(by rw [HL.out]; omega) = byteN n k := by
        rw [List.getElem_reverse]
        have e : (lowB n s).length - 1 - ((lowB n s).reverse.length - 1 - k) = k := by rw [HL.out, lowB_length]; omega
        simp only [e]
        simp [lowB]
      rw [hget, HL.out] at hstep
      rw [hstep] at hput
      have HP := Lib.hid hput
      have HG := Lib.hid hown
      have HB := Lib.hid hb
      clear hput hown hget hb hstep
      go_wp2_with (go_at_call 62; refine (byteAt_any _ n k hn (by omega)).mono ?_; rintro e w' ⟨rfl, rfl⟩)
      go_roundw
      case rel => exact ⟨k + 1, by omega, by go_num, HP.out, HB.out.setCell (by simp) _⟩
      case measure => simp [intOf]; omega
    · have hks : k = s := by omega
      subst hks
      have hown2 : wr.ownsRow w.heap.size 5 1 (.slice (some ⟨w.heap.size, 0, none⟩) k k) k (cellsB (lowB n k).reverse) := by
        have := partlyR_all (lowB n k).reverse; rw [HL.out] at this; rwa [this] at hown
      have HO := Lib.hid hown2
      have HB := Lib.hid hb
      clear hown2 hown hb
      go_wp2
      go_ret
      exact ⟨_, rfl, Bs.of_own HO.out, HB.out⟩

theorem High_out (w : World) (n : Nat) (s : Int) (h : s < 1 ∨ 8 < s) :
    Calls Tryd.prog 41 #[.int .u64 (n : Int), .int .i64 s] w (RetBs w []) := by
  go_enter Tryd.func41, Tryd.ntmps41
  go_wp2_with (go_at_call 61; refine (fits_no _ _ h).mono ?_; rintro e w' ⟨rfl, rfl⟩)
  go_ret
  exact ⟨_, rfl, Bs.nil _, Below.refl _ _⟩

theorem High_any (w : World) (n : Nat) (hn : n < 18446744073709551616) (s : Int) :
    Calls Tryd.prog 41 #[.int .u64 (n : Int), .int .i64 s] w (RetBs w (highI n s)) := by
  unfold highI
  by_cases h : s < 1 ∨ 8 < s
  · rw [lowI_out n s h]
    exact High_out w n s h
  · obtain ⟨t, rfl⟩ := Int.eq_ofNat_of_zero_le (a := s) (by omega)
    rw [lowI_in n t (by omega) (by omega)]
    exact High_in w n t hn (by omega) (by omega)

set_option maxHeartbeats 400000 in
theorem refLow_any (w : World) (n : Nat) (hn : n < 18446744073709551616) (s : Int) (hs : -9223372036854775808 ≤ s ∧ s ≤ 9223372036854775807) :
    Calls Tryd.prog 63 #[.int .u64 (n : Int), .int .i64 s] w (RetBs w (lowI n s)) := by
  obtain ⟨i0, hi, hz0, hz1, hz2⟩ := info_parts Tryd.infoB
  by_cases h8 : 8 < s
  · rw [lowI_out n s (by omega)]
    go_enter Tryd.func63, Tryd.ntmps63
    go_wp2
    go_ret
    exact ⟨_, rfl, Bs.nil _, Below.refl _ _⟩
  · have hlo : lowI n s = lowB n s.toNat := by
      by_cases h : s < 1
      · rw [lowI_out n s (by omega), show s.toNat = 0 by omega, lowB_zero]
      · unfold lowI; rw [if_pos ⟨by omega, by omega⟩]
    rw [hlo]
    clear hlo
    go_enter Tryd.func63, Tryd.ntmps63
    go_wp2
    go_loopw [0, 5, 6] (fun m v i wr => ∃ k q : Nat, k ≤ s.toNat ∧ q = n / 256 ^ k ∧ m = .int .u64 (q : Int) ∧ i = .int .i64 k ∧ OwnB wr w.heap.size 5 v (lowB n k) ∧ Below w.heap.size w wr) (fun _ _ i _ => s.toNat - (intOf i).toNat)
    case atStart => exact ⟨0, n, Nat.zero_le _, by simp, rfl, rfl, OwnB.nil _ _ _, Below.refl _ _⟩
    case round =>
      obtain ⟨k, q, hk, hq, rfl, rfl, hown, hb⟩ := hrel
      have hqn : q < 18446744073709551616 := by rw [hq]; exact Nat.lt_of_le_of_lt (Nat.div_le_self _ _) hn
      have hbi : (q : Int) % 256 = ((byteN n k).toNat : Int) := by rw [byteN_toNat, hq]; omega
      have hqd : q / 256 = n / 256 ^ (k + 1) := by rw [hq, Nat.div_div_eq_div_mul, Nat.pow_succ]
      have HQ := Lib.hid hqd
      have HB := Lib.hid hb
      have HI := Lib.hid hbi
      have HO := Lib.hid hown
      have hsz := hb.size
      clear hq hb hbi hqd hown
      by_cases hlt : (k : Int) < s
      · go_wp2_with (at_builtin; refine wpList_appB _ rfl (.tmp 15) (.tmp 19) 27 rfl w 5 Tryd.infoB Tryd.underlying27 _ _ _ [byteN n k] rfl rfl (HO.out.alloc _) (Bs.lit1 _ _ _ _ HI.out) (by rw [lowB_length]; simp; omega) (HB.out.alloc hsz _) ?_; intro v1 w1 hown1 hb1)
        go_roundw
        case rel => exact ⟨k + 1, q / 256, by omega, HQ.out, by go_num, by go_num, by rw [lowB_succ]; exact hown1, hb1⟩
        case measure => simp [intOf]; omega
      · have hks : k = s.toNat := by omega
        subst hks
        go_wp2
        go_ret
        exact ⟨_, rfl, HO.out.bs, HB.out⟩

set_option maxHeartbeats 400000 in
theorem refHigh_any (w : World) (n : Nat) (hn : n < 18446744073709551616) (s : Int) (hs : -9223372036854775808 ≤ s ∧ s ≤ 9223372036854775807) :
    Calls Tryd.prog 43 #[.int .u64 (n : Int), .int .i64 s] w (RetBs w (highI n s)) := by
  unfold highI
  have hlen := lowI_length n s
  have hc := fun w => refLow_any w n hn s hs
  generalize lowI n s = l at hlen hc ⊢
  have HC := Lib.hid hc
  clear hc
  go_enter Tryd.func43, Tryd.ntmps43
  go_wp2_with (go_at_call 63; refine (HC.out _).mono ?_; rintro e w1 ⟨_, rfl, ⟨A, c, rfl, h1, h2, h3⟩, hb0⟩)
  have HB0 := Lib.hid hb0
  unfold maxLen at h2
  clear hb0
  go_loopw [6, 7] (fun v i wr => ∃ k : Nat, k ≤ l.length ∧ i = .int .i64 ((l.length : Int) - 1 - k) ∧ OwnB wr w1.heap.size 5 v (l.reverse.take k) ∧ Below w1.heap.size w1 wr) (fun _ i _ => (intOf i + 1).toNat)
  case atStart => exact ⟨0, Nat.zero_le _, by simp, OwnB.nil _ _ _, Below.refl _ _⟩
  case round =>
    obtain ⟨k, hk, rfl, hown, hb⟩ := hrel
    have HO := Lib.hid hown
    have HB := Lib.hid hb
    have hsz := hb.size
    clear hown hb
    by_cases hlt : k < l.length
    · obtain ⟨b0, o0, rfl, hc⟩ := h3 (by omega)
      have hcell : wr.cell? ⟨b0, o0 + (l.length - 1 - k), none⟩ = some (.int .u8 ((l[l.length - 1 - k]'(by omega)).toNat : Int)) :=
        (HB.out.cell (p := ⟨b0, o0 + (l.length - 1 - k), none⟩) (World.block_lt_of_cell? w1 _ (hc (l.length - 1 - k) (by omega)))).trans (hc (l.length - 1 - k) (by omega))
      have htk : l.reverse.take (k + 1) = l.reverse.take k ++ [l[l.length - 1 - k]'(by omega)] := by
        rw [List.take_succ_eq_append_getElem (by simpa using hlt), List.getElem_reverse]
      have HT := Lib.hid htk
      clear htk hc h3
      go_wp2_with (at_builtin; refine wpList_appB _ rfl (.tmp 18) (.tmp 23) 27 rfl w1 5 Tryd.infoB Tryd.underlying27 _ _ _ [l[l.length - 1 - k]'(by omega)] rfl rfl (HO.out.alloc _) (Bs.lit1 _ _ _ _ rfl) (by simp; omega) (HB.out.alloc hsz _) ?_; intro v2 w2 hown2 hb2)
      go_roundw
      case rel => exact ⟨k + 1, by omega, by go_num, by rw [HT.out]; exact hown2, hb2⟩
      case measure => simp [intOf]; omega
    · have hks : k = l.length := by omega
      subst hks
      have HO2 : Hid (OwnB wr w1.heap.size 5 u6 l.reverse) := by
        have := HO.out; rwa [List.take_of_length_le (by simp)] at this
      go_wp2
      go_ret
      exact ⟨_, rfl, HO2.out.bs, below_size HB0.out HB.out⟩
end Go.Proofs.YtdojaighchgghaaDoor

