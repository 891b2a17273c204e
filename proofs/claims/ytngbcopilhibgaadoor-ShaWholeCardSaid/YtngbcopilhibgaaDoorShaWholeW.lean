/-
  The walk of ShaWhole. Conditions: what a row hands over.
-/
import Derived.Test.YtngbcopilhibgaaDoorShaI
namespace Go.Proofs.YtngbcopilhibgaaDoor
open Go.RowKit
set_option linter.unusedVariables false
set_option maxRecDepth 20000

theorem padB_tail (m q : Nat) (hq : (padB m).length = q) (h9 : 9 ≤ q) : (padB m).drop (q - 8) = (lowB (8 * m % 18446744073709551616) 8).reverse := by
  rw [padB_length] at hq
  have e : q - 8 = (128 :: List.replicate ((119 - m % 64) % 64) (0 : UInt8)).length := by simp; omega
  rw [padB, e, List.drop_left]

set_option maxHeartbeats 2000000 in
theorem shaWhole_walk (w : World) (hq : Tabs w) (n : Int) (hn : -9223372036854775808 ≤ n ∧ n ≤ 9223372036854775807) :
    Calls Tryd.prog 7 #[.int .i64 n] w (RetV w (.bool true)) := by
  have HQ := Lib.hid hq
  clear hq
  obtain ⟨hn1, hn2⟩ := hn
  by_cases h0 : n < 0
  · have d1 : decide (n < 0) = true := by simp; omega
    go_enter Tryd.func7, Tryd.ntmps7
    go_wp2_with fail
    refine (awake_true _ HQ.out).mono ?_
    intro e w1 h
    obtain ⟨he, b1⟩ := h
    subst he
    go_wp2
    go_ret
    exact ⟨rfl, b1⟩
  · by_cases h1 : 100000 < n
    · have d1 : decide (n < 0) = false := by simp; omega
      have d2 : decide (100000 < n) = true := by simp; omega
      go_enter Tryd.func7, Tryd.ntmps7
      go_wp2_with fail
      refine (awake_true _ HQ.out).mono ?_
      intro e w1 h
      obtain ⟨he, b1⟩ := h
      subst he
      go_wp2
      go_ret
      exact ⟨rfl, b1⟩
    · have d1 : decide (n < 0) = false := by simp; omega
      have d2 : decide (100000 < n) = false := by simp; omega
      obtain ⟨m, rfl⟩ : ∃ m : Nat, n = m := ⟨n.toNat, by omega⟩
      clear hn1 hn2
      go_enter Tryd.func7, Tryd.ntmps7
      go_wp2_with fail
      refine (awake_true _ HQ.out).mono ?_
      intro e w1 h
      obtain ⟨he, b1⟩ := h
      subst he
      go_wp2_with fail
      refine (Pad_any _ m (by omega)).mono ?_
      intro e w2 h
      obtain ⟨u, he, hu, b2⟩ := h
      subst he
      have HB := Lib.hid (below_size b1 b2)
      have HU := Lib.hid hu
      obtain ⟨A, c, rfl, m1, m2, m3⟩ := hu
      obtain ⟨q, hq⟩ : ∃ q, q = (padB m).length := ⟨_, rfl⟩
      have hq2 : q = 9 + (119 - m % 64) % 64 := by rw [hq, padB_length]
      have hmod : (m + q) % 64 = 0 := by omega
      have q1 : 9 ≤ q := by omega
      have q2 : q ≤ 72 := by omega
      obtain ⟨b, off, rfl, hc⟩ := m3 (by omega)
      have hc0 : w2.cell? ⟨b, off, none⟩ = some (.int .u8 128) := hc 0 (by omega)
      have HT : Hid (∀ x, x = q - 8 → Bs w2 (.slice (some ⟨b, off + x, none⟩) (q - x) (c - x)) (lowB (8 * m % 18446744073709551616) 8).reverse) := by
        intro x hx
        have h := HU.out.cutAt x (by omega) (by omega)
        rw [hx, padB_tail m q hq.symm q1] at h
        rw [hx]
        rw [← hq] at h
        exact h
      have HV : Hid ((ofHighB ((lowB (8 * m % 18446744073709551616) 8).reverse.take 8) : Int) = 8 * (m : Int)) := by
        show _ = _
        rw [List.take_of_length_le (by simp [lowB_length]), ofHighB, List.reverse_reverse, ofLowB_lowB]
        omega
      unfold maxLen at m2
      rw [← hq] at HU m1 ⊢
      obtain ⟨y, hy⟩ : ∃ y, y + 8 = q := ⟨q - 8, by omega⟩
      have e1 : ¬ c = y := by omega
      have e2 : (((m : Int) + (q : Int)) % 64 == 0) = true := by rw [beq_iff_eq]; omega
      have e3 : (q : Int) - 8 = (y : Int) := by omega
      have HY := Lib.hid hy
      clear m3 hc hq hq2 hmod hy b1 b2
      go_wp2_with fail
      refine (refOfHigh_any _ _ _ (HT.out y (by have := HY.out; omega))).mono ?_
      intro e w3 h
      obtain ⟨he, hw⟩ := h
      subst he hw
      rw [HV.out]
      have e5 : ((8 * (m : Int)) == (8 * (m : Int))) = true := by simp
      go_wp2
      go_ret
      exact ⟨rfl, HB.out⟩
end Go.Proofs.YtngbcopilhibgaaDoor
