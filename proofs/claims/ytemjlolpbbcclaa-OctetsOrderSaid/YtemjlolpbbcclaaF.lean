/-
  Contracts of octets' and cablegramref01's functions on digits. Conditions: as each theorem names them.
-/
import Derived.Test.YtemjlolpbbcclaaB
import Derived.Test.YtemjlolpbbcclaaHexMath
import Derived.Deep.RegionLaw
namespace Go.Proofs.Ytemjlolpbbcclaa
open Go.RowKit
set_option linter.unusedVariables false

theorem digit_any (w : World) (c : UInt8) :
    Calls Try.prog 34 #[.int .u8 (c.toNat : Int)] w fun e w' => e = .returned (.tuple #[.int .u8 ((hexd c).toNat : Int), .bool (isHex c)]) ∧ w = w' := by
  have hc := c.toNat_lt
  by_cases h1 : 48 ≤ c.toNat
  · have g1 : (48 : Int) ≤ (c.toNat : Int) := by omega
    by_cases h2 : c.toNat ≤ 57
    · have H := Lib.hid (hex_dig c h1 h2)
      go_enter Try.func34, Try.ntmps34
      go_wp2
      go_ret2
      exact ⟨by rw [H.out.1, H.out.2]; go_num, rfl⟩
    · have g2 : decide ((c.toNat : Int) ≤ 57) = false := by simp; omega
      by_cases h3 : 97 ≤ c.toNat
      · have g3 : (97 : Int) ≤ (c.toNat : Int) := by omega
        by_cases h4 : c.toNat ≤ 102
        · have H := Lib.hid (hex_af c h3 h4)
          go_enter Try.func34, Try.ntmps34
          go_wp2
          go_ret2
          exact ⟨by rw [H.out.1, H.out.2]; go_num, rfl⟩
        · have g4 : decide ((c.toNat : Int) ≤ 102) = false := by simp; omega
          have H := Lib.hid (hex_none c (by omega))
          go_enter Try.func34, Try.ntmps34
          go_wp2
          go_ret2
          exact ⟨by rw [H.out.1, H.out.2]; rfl, rfl⟩
      · have g3 : decide ((97 : Int) ≤ (c.toNat : Int)) = false := by simp; omega
        have H := Lib.hid (hex_none c (by omega))
        go_enter Try.func34, Try.ntmps34
        go_wp2
        go_ret2
        exact ⟨by rw [H.out.1, H.out.2]; rfl, rfl⟩
  · have g1 : decide ((48 : Int) ≤ (c.toNat : Int)) = false := by simp; omega
    have g3 : decide ((97 : Int) ≤ (c.toNat : Int)) = false := by simp; omega
    have H := Lib.hid (hex_none c (by omega))
    go_enter Try.func34, Try.ntmps34
    go_wp2
    go_ret2
    exact ⟨by rw [H.out.1, H.out.2]; rfl, rfl⟩

set_option maxHeartbeats 800000 in
theorem refDigit_any (w : World) (c : UInt8) :
    Calls Try.prog 35 #[.int .u8 (c.toNat : Int)] w fun e w' => e = .returned (.int .i64 (refDig c)) ∧ w = w' := by
  go_enter Try.func35, Try.ntmps35
  go_wp2
  go_loop [4] (fun i => ∃ k : Nat, k ≤ 16 ∧ i = .int .i64 k ∧ (∀ j, j < k → hexC j ≠ c)) (fun i => 16 - (intOf i).toNat)
  case atStart => exact ⟨0, Nat.zero_le _, rfl, fun j hj => absurd hj (by omega)⟩
  case round =>
    obtain ⟨k, hk, rfl, hno⟩ := hrel
    have HN := Lib.hid hno
    clear hno
    by_cases hlt : k < 16
    · go_wp2
      · have ht : ((((ByteArray.mk #[48, 49, 50, 51, 52, 53, 54, 55, 56, 57, 97, 98, 99, 100, 101, 102])[k]'hlt).toNat : Int) == (c.toNat : Int)) = true := by assumption
        rw [digs_get k hlt] at ht
        have hfin := refDig_hit k hlt c (UInt8.toNat_inj.1 (by have := of_decide_eq_true ht; omega))
        go_ret
        exact ⟨by rw [hfin]; rfl, rfl⟩
      · have ht : ((((ByteArray.mk #[48, 49, 50, 51, 52, 53, 54, 55, 56, 57, 97, 98, 99, 100, 101, 102])[k]'hlt).toNat : Int) == (c.toNat : Int)) = false := by assumption
        rw [digs_get k hlt] at ht
        have hne : hexC k ≠ c := by rintro rfl; simp at ht
        go_round
        case rel => exact ⟨k + 1, by omega, by go_num, fun j hj => by
          rcases Nat.lt_succ_iff_lt_or_eq.1 hj with h | h
          · exact HN.out j h
          · rw [h]; exact hne⟩
        case measure => simp [intOf]; omega
    · obtain rfl : k = 16 := by omega
      have hfin := Lib.hid (refDig_miss c HN.out)
      go_wp2
      go_ret
      exact ⟨by rw [hfin.out]; rfl, rfl⟩

theorem and15 (x : UInt8) : bits .and .u8 (x.toNat : Int) 15 = (x.toNat : Int) % 16 := by
  have h := u8_and_nat x.toNat 15 x.toNat_lt (by omega)
  rw [show ((15 : Nat) : Int) = 15 from rfl] at h
  rw [h, show (15 : Nat) = 2 ^ 4 - 1 from rfl, Nat.and_two_pow_sub_one_eq_mod]
  omega

set_option maxHeartbeats 800000 in
theorem Hex_any (w : World) (v : Value) (l : List UInt8) (h : Bs w v l) (hl : l.length ≤ 1000000000000) :
    Calls Try.prog 22 #[v] w (RetV w (.string ⟨(hexL l).toArray⟩)) := by
  obtain ⟨i0, hi, hz0, hz1, hz2⟩ := info_parts Try.infoB
  obtain ⟨A, c, rfl, h1, h2, h3⟩ := h
  unfold maxLen at h2
  go_enter Try.func22, Try.ntmps22
  go_wp2_with (refine wpList_make_own _ rfl (.const (.int .i64 0)) (.tmp 8) 23 rfl w.heap.size 5 i0 (.int .u8 0) 1 Try.underlying23 hi hz0 hz1 .i64 .i64 _ (2 * l.length) rfl rfl (by omega) (by rw [hz2]; omega) (by unfold maxLen; omega) (Nat.le_refl _) ?_; intro w1 hown hgrow)
  have hown0 : OwnB w1 w.heap.size 5 (.slice (some ⟨w.heap.size, 0, none⟩) 0 (2 * l.length)) (hexL (l.take 0)) := hown
  have hbel : Below w.heap.size w w1 := (Below.refl _ _).grown hgrow (Nat.le_refl _) (fun k h => by cases h)
  clear hown hgrow
  go_loopw [3, 12] (fun v i wr => ∃ k : Nat, k ≤ l.length ∧ i = .int .i64 k ∧ OwnB wr w.heap.size 5 v (hexL (l.take k)) ∧ Below w.heap.size w wr) (fun _ i _ => l.length - (intOf i).toNat)
  case atStart => exact ⟨0, Nat.zero_le _, rfl, hown0, hbel⟩
  case round =>
    obtain ⟨k, hk, rfl, hown, hb⟩ := hrel
    clear hown0 hbel
    have HO := Lib.hid hown
    have HB := Lib.hid hb
    have hsz := hb.size
    clear hown hb
    by_cases hlt : k < l.length
    · obtain ⟨b0, o0, rfl, hc⟩ := h3 (by omega)
      have hc0 : wr.cell? ⟨b0, o0 + k, none⟩ = some (.int .u8 ((l[k]'(by omega)).toNat : Int)) := (HB.out.cell (p := ⟨b0, o0 + k, none⟩) (World.block_lt_of_cell? w _ (hc k (by omega)))).trans (hc k (by omega))
      have HT := Lib.hid (hexL_take l k hlt)
      have HLn : Hid ((hexL (l.take k)).length = 2 * k) := by rw [hexL_length, List.length_take_of_le (by omega)]; rfl
      generalize l[k] = x at hc0 HT
      have hx := x.toNat_lt
      have hx1 : 0 ≤ (x.toNat : Int) / 16 := by omega
      have hx2 : (x.toNat : Int) / 16 < 16 := by omega
      have hy1 : 0 ≤ (x.toNat : Int) % 16 := by omega
      have hy2 : (x.toNat : Int) % 16 < 16 := by omega
      have hand := and15 x
      clear hc h3
      go_wp2
      go_region_law (refine step_appB _ rfl (.tmp 16) (.tmp 23) 23 rfl w 5 Try.infoB Try.underlying23 _ _ (hexL (l.take k)) [hexC (x.toNat / 16), hexC (x.toNat % 16)] rfl rfl (HO.out.alloc _) (Bs.lit2 _ _ _ _ _ _ (digs_int _ _ (by omega) _) (digs_int _ _ (by omega) _)) (by rw [HLn.out]; simp; omega) (HB.out.alloc hsz _).drew ?_; intro v2 w2 hown2 hb2)
      all_goals
        go_wp2
        go_roundw
        case rel => exact ⟨k + 1, by omega, by go_num, by rw [HT.out]; exact hown2, hb2⟩
        case measure => simp [intOf]; omega
    · have HO2 : Hid (OwnB wr w.heap.size 5 u3 (hexL l)) := by have := HO.out; rwa [List.take_of_length_le (by omega)] at this
      have hcv := run_convB (P := Try.prog) HO2.out.bs 23 9 5 Try.underlying23 Try.underlying5 Try.underlying9
      go_wp2
      go_ret
      exact ⟨rfl, HB.out⟩
end Go.Proofs.Ytemjlolpbbcclaa
