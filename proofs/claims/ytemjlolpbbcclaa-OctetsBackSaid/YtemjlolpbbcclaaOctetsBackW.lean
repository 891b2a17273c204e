/-
  The walk of OctetsBack. Conditions: what a row hands over.
-/
import Derived.Test.YtemjlolpbbcclaaAwake
import Derived.Test.YtemjlolpbbcclaaD
namespace Go.Proofs.Ytemjlolpbbcclaa
open Go.RowKit
set_option linter.unusedVariables false

theorem low_back (n s : Nat) (hs1 : 1 ≤ s) (hs2 : s ≤ 8) (hn : n < 256 ^ s) : ofLowB ((lowI n s).take 8) = n := by
  rw [List.take_of_length_le (lowI_length n s), lowI_in n s hs1 hs2, ofLowB_lowB]
  exact Nat.mod_eq_of_lt hn
theorem high_back (n s : Nat) (hs1 : 1 ≤ s) (hs2 : s ≤ 8) (hn : n < 256 ^ s) : ofHighB ((highI n s).take 8) = n := by
  have hl := lowI_length n s
  unfold highI
  rw [List.take_of_length_le (by rw [List.length_reverse]; exact hl), lowI_in n s hs1 hs2]
  unfold ofHighB
  rw [List.reverse_reverse, ofLowB_lowB]
  exact Nat.mod_eq_of_lt hn
theorem unhex_back (w : World) (l : List UInt8) (hl : l.length ≤ 1000) : Calls Try.prog 28 #[.string ⟨(hexL l).toArray⟩] w fun e w' => ∃ v, e = .returned (.tuple #[v, .int .i64 0]) ∧ Bs w' v l ∧ Below w.heap.size w w' := by
  have h : unhexL (ByteArray.mk (hexL l).toArray).data.toList = some l := unhex_hex l
  have hz : (ByteArray.mk (hexL l).toArray).size ≤ 1000000000000 := by
    have := hexL_length l
    simp [ByteArray.size]; omega
  have := Unhex_any w ⟨(hexL l).toArray⟩ hz
  rw [h] at this
  exact this

set_option maxHeartbeats 2000000 in
theorem octetsBack_walk (w : World) (n : Nat) (hn : n < 18446744073709551616) (s : Int) (hs : -9223372036854775808 ≤ s ∧ s ≤ 9223372036854775807) (v : Value) (l : List UInt8) (hb : Bs w v l) :
    Calls Try.prog 6 #[.int .u64 (n : Int), .int .i64 s, v] w (RetV w (.bool true)) := by
  have HV := Lib.hid hb
  obtain ⟨A, c, rfl, h1, h2, h3⟩ := hb
  unfold maxLen at h2
  clear h3
  by_cases hout : s < 1 ∨ 8 < s ∨ 200 < l.length
  · have fin : ∀ w1 : World, Below w.heap.size w w1 → Below w.heap.size w w1 := fun _ h => h
    rcases hout with hc | hc
    · have hd : decide (s < 1) = true := by simp; omega
      go_enter Try.func6, Try.ntmps6
      go_wp2_with fail
      refine (awake_true _).mono ?_
      rintro e w1 ⟨rfl, b1⟩
      go_wp2
      go_ret
      exact ⟨rfl, b1⟩
    · by_cases hs1 : s < 1
      · have hd : decide (s < 1) = true := by simp; omega
        go_enter Try.func6, Try.ntmps6
        go_wp2_with fail
        refine (awake_true _).mono ?_
        rintro e w1 ⟨rfl, b1⟩
        go_wp2
        go_ret
        exact ⟨rfl, b1⟩
      · have hd : decide (s < 1) = false := by simp; omega
        by_cases hs2 : 8 < s
        · have hd2 : decide (8 < s) = true := by simp; omega
          go_enter Try.func6, Try.ntmps6
          go_wp2_with fail
          refine (awake_true _).mono ?_
          rintro e w1 ⟨rfl, b1⟩
          go_wp2
          go_ret
          exact ⟨rfl, b1⟩
        · have hd2 : decide (8 < s) = false := by simp; omega
          have hl2 : 200 < l.length := by omega
          have hd3 : decide ((200 : Int) < (l.length : Int)) = true := by simp; omega
          go_enter Try.func6, Try.ntmps6
          go_wp2_with fail
          refine (awake_true _).mono ?_
          rintro e w1 ⟨rfl, b1⟩
          go_wp2
          go_ret
          exact ⟨rfl, b1⟩
  · obtain ⟨t, rfl⟩ := Int.eq_ofNat_of_zero_le (a := s) (by omega)
    have ht1 : 1 ≤ t := by omega
    have ht2 : t ≤ 8 := by omega
    have hll : l.length ≤ 200 := by omega
    have hd : decide ((t : Int) < 1) = false := by simp; omega
    have hd2 : decide (8 < (t : Int)) = false := by simp; omega
    have hd3 : decide ((200 : Int) < (l.length : Int)) = false := by simp; omega
    clear hout
    by_cases h8 : t < 8
    · obtain ⟨P, hP⟩ : ∃ P, P = 256 ^ t := ⟨_, rfl⟩
      obtain ⟨m, hm⟩ : ∃ m, m = n % P := ⟨_, rfl⟩
      have hP0 : 0 < P := by rw [hP]; exact Nat.pow_pos (by omega)
      have hP64 : P ≤ 72057594037927936 := by
        rw [hP]
        have : (256 : Nat) ^ t ≤ 256 ^ 7 := Nat.pow_le_pow_right (by omega) (by omega)
        simpa using this
      have hwr : IntKind.u64.wrap (2 ^ (8 * t)) = (P : Int) := by
        have h : (2 : Int) ^ (8 * t) = ((256 ^ t : Nat) : Int) := by
          rw [show (256 : Nat) = 2 ^ 8 from rfl, ← Nat.pow_mul]
          simp
        rw [h, ← hP, IntKind.wrap_u64]
        omega
      have hmod : (n : Int) % (P : Int) = (m : Int) := by rw [hm]; omega
      have hmt : m < P := by rw [hm]; exact Nat.mod_lt _ hP0
      have hm64 : m < 18446744073709551616 := by omega
      have HL := Lib.hid (low_back m t ht1 ht2 (by rw [← hP]; exact hmt))
      have HH := Lib.hid (high_back m t ht1 ht2 (by rw [← hP]; exact hmt))
      clear hm hP
      go_enter Try.func6, Try.ntmps6
      go_wp2_with fail
      refine (awake_true _).mono ?_
      rintro e w1 ⟨rfl, b1⟩
      go_wp2_with fail
      refine (Low_any _ m hm64 t).mono ?_
      rintro e w2 ⟨vx, rfl, hx2, b2'⟩
      have b2 := below_size b1 b2'
      clear b1 b2'
      go_wp2_with fail
      refine (OfLow_any _ _ _ hx2).mono ?_
      rintro e w2 ⟨rfl, rfl⟩
      rw [HL.out]
      go_wp2_with fail
      refine (High_any _ m hm64 t).mono ?_
      rintro e w3 ⟨vy, rfl, hy3, b3'⟩
      have b3 := below_size b2 b3'
      clear b2 b3'
      go_wp2_with fail
      refine (OfHigh_any _ _ _ hy3).mono ?_
      rintro e w3 ⟨rfl, rfl⟩
      rw [HH.out]
      have hv3 := HV.out.below b3
      go_wp2_with fail
      refine (Hex_any _ _ l hv3 (by omega)).mono ?_
      rintro e w4 ⟨rfl, b4'⟩
      have b4 := below_size b3 b4'
      clear b3 b4' hv3
      go_wp2_with fail
      refine (unhex_back _ l (by omega)).mono ?_
      rintro e w5 ⟨vc, rfl, hc5, b5'⟩
      have b5 := below_size b4 b5'
      have hv5 := HV.out.below b5
      clear b4 b5'
      go_wp2_with fail
      refine (refSame_yes _ _ _ l hv5 hc5).mono ?_
      rintro e w6 ⟨rfl, b6'⟩
      have b6 := below_size b5 b6'
      go_wp2
      go_ret
      exact ⟨rfl, b6⟩
    · obtain rfl : t = 8 := by omega
      have HL : Hid (ofLowB ((lowI n 8).take 8) = n) := low_back n 8 ht1 ht2 (by simpa using hn)
      have HH : Hid (ofHighB ((highI n 8).take 8) = n) := high_back n 8 ht1 ht2 (by simpa using hn)
      go_enter Try.func6, Try.ntmps6
      go_wp2_with fail
      refine (awake_true _).mono ?_
      rintro e w1 ⟨rfl, b1⟩
      go_wp2_with fail
      refine (Low_any _ n hn 8).mono ?_
      rintro e w2 ⟨vx, rfl, hx2, b2'⟩
      have b2 := below_size b1 b2'
      clear b1 b2'
      go_wp2_with fail
      refine (OfLow_any _ _ _ hx2).mono ?_
      rintro e w2 ⟨rfl, rfl⟩
      rw [HL.out]
      go_wp2_with fail
      refine (High_any _ n hn 8).mono ?_
      rintro e w3 ⟨vy, rfl, hy3, b3'⟩
      have b3 := below_size b2 b3'
      clear b2 b3'
      go_wp2_with fail
      refine (OfHigh_any _ _ _ hy3).mono ?_
      rintro e w3 ⟨rfl, rfl⟩
      rw [HH.out]
      have hv3 := HV.out.below b3
      go_wp2_with fail
      refine (Hex_any _ _ l hv3 (by omega)).mono ?_
      rintro e w4 ⟨rfl, b4'⟩
      have b4 := below_size b3 b4'
      clear b3 b4' hv3
      go_wp2_with fail
      refine (unhex_back _ l (by omega)).mono ?_
      rintro e w5 ⟨vc, rfl, hc5, b5'⟩
      have b5 := below_size b4 b5'
      have hv5 := HV.out.below b5
      clear b4 b5'
      go_wp2_with fail
      refine (refSame_yes _ _ _ l hv5 hc5).mono ?_
      rintro e w6 ⟨rfl, b6'⟩
      have b6 := below_size b5 b6'
      go_wp2
      go_ret
      exact ⟨rfl, b6⟩
end Go.Proofs.Ytemjlolpbbcclaa
