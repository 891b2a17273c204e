/-
  The walk of MacLonger. Conditions: what a row hands over.
-/
import Derived.Test.YtdojaighchgghaaDoorMacC
import Derived.Test.YtdojaighchgghaaDoorMacK
import Derived.Test.YtdojaighchgghaaDoorA
namespace Go.Proofs.YtdojaighchgghaaDoor
open Go.RowKit
set_option linter.unusedVariables false
set_option maxRecDepth 20000

theorem outT_upto (key info : List UInt8) (j k : Nat) (h : j ≤ k) : (outT key info k).take (32 * j) = outT key info j := by
  induction k with
  | zero => obtain rfl : j = 0 := by omega
            rfl
  | succ k ih =>
    rcases Nat.lt_or_ge k j with h1 | h1
    · obtain rfl : j = k + 1 := by omega
      rw [List.take_of_length_le]
      rw [outT_length]
      exact Nat.le_refl _
    · have := ih h1
      rw [outT, List.take_append_of_le_length (by rw [outT_length]; omega), this]
theorem outT_take (key info : List UInt8) (a b : Nat) (h : a ≤ b) : ((outT key info ((b + 31) / 32)).take b).take a = (outT key info ((a + 31) / 32)).take a := by
  rw [List.take_take, Nat.min_eq_left h, ← outT_upto key info ((a + 31) / 32) ((b + 31) / 32) (by omega), List.take_take, Nat.min_eq_left (by omega)]

set_option maxHeartbeats 4000000 in
theorem macLonger_walk (w : World) (hq : Tabs w) (key : List UInt8) (hk : key.length = 32) (v : Value) (info : List UInt8) (hb : Bs w v info) (n : Int) (hn : -9223372036854775808 ≤ n ∧ n ≤ 9223372036854775807) (m : Int) (hm : -9223372036854775808 ≤ m ∧ m ≤ 9223372036854775807) :
    Calls Tryd.prog 12 #[keyV key, v, .int .i64 n, .int .i64 m] w (RetV w (.bool true)) := by
  have HQ := Lib.hid hq
  have HVB := Lib.hid hb
  have HK := Lib.hid hk
  obtain ⟨BA, BC, rfl, x1, x2, x3⟩ := hb
  unfold maxLen at x2
  obtain ⟨hn1, hn2⟩ := hn
  obtain ⟨hm1, hm2⟩ := hm
  clear hq x3 hk
  by_cases bad : 200 < info.length ∨ n < 0 ∨ m < n ∨ 400 < m
  · obtain ⟨t1, ht1⟩ : ∃ b, b = decide ((200 : Int) < (info.length : Int)) := ⟨_, rfl⟩
    obtain ⟨t2, ht2⟩ : ∃ b, b = decide (n < 0) := ⟨_, rfl⟩
    obtain ⟨t3, ht3⟩ : ∃ b, b = decide (m < n) := ⟨_, rfl⟩
    obtain ⟨t4, ht4⟩ : ∃ b, b = decide (400 < m) := ⟨_, rfl⟩
    have hor : (t1 || t2 || t3 || t4) = true := by
      rw [ht1, ht2, ht3, ht4]
      simp only [Bool.or_eq_true, decide_eq_true_eq]
      omega
    have d1 := ht1.symm
    have d2 := ht2.symm
    have d3 := ht3.symm
    have d4 := ht4.symm
    clear ht1 ht2 ht3 ht4 bad
    cases t1 <;> cases t2 <;> cases t3 <;> cases t4 <;> first
      | (exfalso; revert hor; decide)
      | (clear hor
         go_enter Tryd.func12, Tryd.ntmps12
         go_wp2_with ((with_reducible refine wpList_box_row (o := ⟨some 4, _, _, _, _, _⟩) rfl 33 (.tmp 0) rfl (keyC key) (by with_unfolding_all rfl) ?_); intro g0 w0 n0)
         refine (macAwake_true _ (HQ.out.below n0.below)).mono ?_
         intro e w1 h
         obtain ⟨he, b1⟩ := h
         subst he
         go_wp2
         go_ret
         exact ⟨rfl, below_size n0.below b1⟩)
  · obtain ⟨a, rfl⟩ : ∃ a : Nat, n = (a : Int) := ⟨n.toNat, by omega⟩
    obtain ⟨b, rfl⟩ : ∃ b : Nat, m = (b : Int) := ⟨m.toNat, by omega⟩
    have d1 : decide ((200 : Int) < (info.length : Int)) = false := by simp; omega
    have d2 : decide ((a : Int) < 0) = false := by simp
    have d3 : decide ((b : Int) < (a : Int)) = false := by simp; omega
    have d4 : decide ((400 : Int) < (b : Int)) = false := by simp; omega
    have hil : info.length ≤ 20000 := by omega
    have hab : a ≤ b := by omega
    have hb8 : b ≤ 8160 := by omega
    have HT := Lib.hid (outT_take key info a b hab)
    have HLB : Hid (((outT key info ((b + 31) / 32)).take b).length = b) := by show _ = _; rw [List.length_take, outT_length]; omega
    have HLA : Hid (((outT key info ((a + 31) / 32)).take a).length = a) := by show _ = _; rw [List.length_take, outT_length]; omega
    clear bad
    go_enter Tryd.func12, Tryd.ntmps12
    go_wp2_with ((with_reducible refine wpList_box_row (o := ⟨some 4, _, _, _, _, _⟩) rfl 33 (.tmp 0) rfl (keyC key) (by with_unfolding_all rfl) ?_); intro g0 w0 n0)
    refine (macAwake_true _ (HQ.out.below n0.below)).mono ?_
    intro e w1 h
    obtain ⟨he, b1⟩ := h
    subst he
    have B1 := Lib.hid (below_size n0.below b1)
    have K1 := Lib.hid (n0.row.kept b1)
    clear b1 n0
    go_wp2_with fail
    refine (New_any _ false).mono ?_
    intro e w2 h
    obtain ⟨g, he, n2⟩ := h
    subst he
    have R2 := Lib.hid (Run.new HQ.out B1.out n2)
    have K2 := Lib.hid (K1.out.kept n2.below)
    have V2 := Lib.hid (HVB.out.below R2.out.below)
    have hne : g0 ≠ g := by have := n2.spot; have := K1.out.lt; omega
    clear n2 B1 K1
    go_wp2_with (with_reducible refine wpList_load_row (o := ⟨some 36, _, _, _, _, _⟩) rfl 33 (.tmp 4) rfl g0 (by with_unfolding_all rfl) 33 (keyC key) (0, 0) (.array 32 5) (by with_unfolding_all exact K2.out) Tryd.underlying33 rfl (Tryd.sizeKey key HK.out) ?_)
    refine (macExpand_any w w2 g 0 R2.out.self (by omega) key HK.out (.slice BA info.length BC) info V2.out hil a (by omega)).mono ?_
    intro e w3 h
    obtain ⟨u3, n3, hn3, he, hu3, r3⟩ := h
    subst he
    have K3 := Lib.hid (r3.other K2.out hne)
    have V3 := Lib.hid (r3.bs V2.out)
    have R3 := Lib.hid (R2.out.trans r3)
    have hu3' := hu3
    obtain ⟨A3, c3, rfl, y1, y2, _⟩ := hu3
    rw [HLA.out] at hu3' ⊢
    have U3 := Lib.hid hu3'
    clear hu3' y1 y2
    clear r3 K2 V2 R2
    go_wp2_with (with_reducible refine wpList_load_row (o := ⟨some 44, _, _, _, _, _⟩) rfl 33 (.tmp 4) rfl g0 (by with_unfolding_all rfl) 33 (keyC key) (0, 0) (.array 32 5) (by with_unfolding_all exact K3.out) Tryd.underlying33 rfl (Tryd.sizeKey key HK.out) ?_)
    refine (macExpand_any w w3 g n3 R3.out.self (by omega) key HK.out (.slice BA info.length BC) info V3.out hil b hb8).mono ?_
    intro e w4 h
    obtain ⟨u4, n4, hn4, he, hu4, r4⟩ := h
    subst he
    have U34 := Lib.hid (r4.bs U3.out)
    have B4 := Lib.hid (R3.out.trans r4).below
    have U4 := Lib.hid hu4
    obtain ⟨A4, c4, rfl, z1, z2, _⟩ := hu4
    rw [HLB.out] at z1 ⊢
    have U5 : Hid (Bs w4 (.slice A4 a c4) ((outT key info ((a + 31) / 32)).take a)) := by
      have h := U4.out
      rw [HLB.out] at h
      have := h.upto a (by rw [HLB.out]; exact hab)
      rwa [HT.out] at this
    unfold maxLen at z2
    have q1 : ((b : Int) != (b : Int)) = false := by simp
    clear r4 K3 V3 R3 U3 U4
    go_wp2_with fail
    refine (refSame w4 _ _ _ _ U34.out U5.out).mono ?_
    intro e w5 h
    obtain ⟨he, nn, hw⟩ := h
    subst he
    subst hw
    rw [beq_self_eq_true]
    go_wp2
    go_ret
    exact ⟨rfl, below_drewN B4.out nn⟩
end Go.Proofs.YtdojaighchgghaaDoor
