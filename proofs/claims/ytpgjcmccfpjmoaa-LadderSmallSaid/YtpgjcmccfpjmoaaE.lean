/-
  Contracts of octets' and cablegramref01's functions that mix and compare bytes. Conditions: as each theorem names them.
-/
import Derived.Test.YtpgjcmccfpjmoaaB
import Derived.Deep.RegionLaw
namespace Go.Proofs.Ytpgjcmccfpjmoaa
open Go.RowKit
set_option linter.unusedVariables false
set_option maxRecDepth 20000

theorem xor_byte (a b : UInt8) : bits .xor .u8 (a.toNat : Int) (b.toNat : Int) = ((a ^^^ b).toNat : Int) := by
  rw [u8_xor_nat _ _ a.toNat_lt b.toNat_lt, UInt8.toNat_xor]
theorem or_byte (a b : UInt8) : bits .or .u8 (a.toNat : Int) (b.toNat : Int) = ((a ||| b).toNat : Int) := by
  rw [u8_or_nat _ _ a.toNat_lt b.toNat_lt, UInt8.toNat_or]


theorem xorB_take (a b : List UInt8) (k : Nat) (ha : k < a.length) (hb : k < b.length) : (xorB a b).take (k + 1) = (xorB a b).take k ++ [a[k] ^^^ b[k]] := by
  have h : k < (xorB a b).length := by rw [xorB_length]; omega
  rw [List.take_succ_eq_append_getElem h, xorB_get a b k h ha hb]


/-- What is gathered of the differences of the first k places (0 stands for what is not there). -/
def gathered (a b : List UInt8) : Nat → UInt8
  | 0 => 0
  | k + 1 => gathered a b k ||| (a.getD k 0 ^^^ b.getD k 0)
theorem or_eq_zero (x y : UInt8) : x ||| y = 0 ↔ x = 0 ∧ y = 0 := by
  constructor
  · intro h
    have h1 : x.toNat ||| y.toNat = 0 := by rw [← UInt8.toNat_or, h]; rfl
    have h2 := Nat.or_eq_zero_iff.1 h1
    exact ⟨UInt8.toNat_inj.1 (by simpa using h2.1), UInt8.toNat_inj.1 (by simpa using h2.2)⟩
  · rintro ⟨rfl, rfl⟩; rfl
theorem xor_eq_zero (x y : UInt8) : x ^^^ y = 0 ↔ x = y := UInt8.xor_eq_zero_iff
theorem gathered_zero (a b : List UInt8) (k : Nat) : gathered a b k = 0 ↔ ∀ j, j < k → a.getD j 0 = b.getD j 0 := by
  induction k with
  | zero => simp [gathered]
  | succ k ih =>
    rw [gathered, or_eq_zero, ih, xor_eq_zero]
    constructor
    · rintro ⟨h1, h2⟩ j hj
      rcases Nat.lt_succ_iff_lt_or_eq.1 hj with h | h
      · exact h1 j h
      · rw [h]; exact h2
    · intro h
      exact ⟨fun j hj => h j (by omega), h k (by omega)⟩
theorem gathered_same (a b : List UInt8) (hl : a.length = b.length) : gathered a b (max a.length b.length) = 0 ↔ a = b := by
  rw [gathered_zero]
  constructor
  · intro h
    apply List.ext_getElem hl
    intro j h1 h2
    have := h j (by omega)
    simpa [List.getD_eq_getElem?_getD, h1, h2] using this
  · rintro rfl j _
    rfl

theorem at_any (w : World) (va : Value) (a : List UInt8) (ha : Bs w va a) (i : Nat) (hm : i ≤ maxLen) :
    Calls Try.prog 46 #[va, .int .i64 (i : Int)] w fun e w' => e = .returned (.int .u8 ((a.getD i 0).toNat : Int)) ∧ w = w' := by
  by_cases h : i < a.length
  · rw [List.getD_eq_getElem?_getD, List.getElem?_eq_getElem h]
    exact at_in w va a ha i h
  · rw [List.getD_eq_getElem?_getD, List.getElem?_eq_none (by omega)]
    exact at_out w va a ha i (by omega) hm

set_option maxHeartbeats 800000 in
theorem Same_any (w : World) (va vb : Value) (a b : List UInt8) (ha : Bs w va a) (hb : Bs w vb b) :
    Calls Try.prog 26 #[va, vb] w fun e w' => e = .returned (.bool (a == b)) ∧ w = w' := by
  have HA := Lib.hid ha
  have HBb := Lib.hid hb
  obtain ⟨A, ca, rfl, ha1, ha2, ha3⟩ := ha
  obtain ⟨B, cb, rfl, hb1, hb2, hb3⟩ := hb
  unfold maxLen at ha2 hb2
  clear ha3 hb3
  have hmax : max a.length b.length ≤ 9223372036854775807 := by omega
  by_cases hle : a.length < b.length
  all_goals
    go_enter Try.func26, Try.ntmps26
    go_wp2
    go_loop [5, 12] (fun d i => ∃ (k : Nat) (g : UInt8), k ≤ max a.length b.length ∧ i = .int .i64 k ∧ g = gathered a b k ∧ d = .int .u8 (g.toNat : Int)) (fun _ i => max a.length b.length - (intOf i).toNat)
    case atStart => exact ⟨0, 0, Nat.zero_le _, rfl, rfl, rfl⟩
    case round =>
      obtain ⟨k, g, hk, rfl, hg, rfl⟩ := hrel
      have HG := Lib.hid hg
      have hg8 := g.toNat_lt
      clear hg
      by_cases hlt : k < max a.length b.length
      · go_wp2_with fail
        refine (at_any _ _ a HA.out k (by unfold maxLen; omega)).mono ?_
        rintro e w' ⟨rfl, rfl⟩
        have hd1 := (a.getD k 0).toNat_lt
        go_wp2_with fail
        refine (at_any _ _ b HBb.out k (by unfold maxLen; omega)).mono ?_
        rintro e w' ⟨rfl, rfl⟩
        have hd2 := (b.getD k 0).toNat_lt
        go_wp2
        go_round
        case rel => exact ⟨k + 1, gathered a b (k + 1), by omega, by go_num, rfl, by rw [gathered, ← or_byte, ← xor_byte, HG.out]; first | (simp [show k < b.length by omega]; done) | (simp [show k < a.length by omega]; done)⟩
        case measure => simp [intOf]; omega
      · have hks : k = max a.length b.length := by omega
        by_cases hl : a.length = b.length
        · have hl1 : ((a.length : Int) == (b.length : Int)) = true := by simp [hl]
          by_cases hz : g = 0
          · have hz1 : ((g.toNat : Int) == 0) = true := by rw [hz]; rfl
            have hfin : (a == b) = true := by
              rw [beq_iff_eq, ← gathered_same a b hl, ← hks, ← HG.out, hz]
            have Hf := Lib.hid hfin
            clear hfin hl hz hks
            go_wp2
            go_ret
            exact ⟨by rw [Hf.out]; rfl, rfl⟩
          · have hz1 : ((g.toNat : Int) == 0) = false := by
              rw [beq_eq_false_iff_ne]; intro h; exact hz (UInt8.toNat_inj.1 (by simpa using h))
            have hfin : (a == b) = false := by
              rw [beq_eq_false_iff_ne]; intro h; rw [← gathered_same a b hl, ← hks, ← HG.out] at h; exact hz h
            have Hf := Lib.hid hfin
            clear hfin hl hz hks
            go_wp2
            go_ret
            exact ⟨by rw [Hf.out]; rfl, rfl⟩
        · have hl1 : ((a.length : Int) == (b.length : Int)) = false := by rw [beq_eq_false_iff_ne]; omega
          have hfin : (a == b) = false := by
            rw [beq_eq_false_iff_ne]; rintro rfl; exact hl rfl
          have Hf := Lib.hid hfin
          clear hfin hl hks
          by_cases hz : ((g.toNat : Int) == 0) = true
          · go_wp2
            go_ret
            exact ⟨by rw [Hf.out]; rfl, rfl⟩
          · have hz1 : ((g.toNat : Int) == 0) = false := by simpa using hz
            clear hz
            go_wp2
            go_ret
            exact ⟨by rw [Hf.out]; rfl, rfl⟩
end Go.Proofs.Ytpgjcmccfpjmoaa

