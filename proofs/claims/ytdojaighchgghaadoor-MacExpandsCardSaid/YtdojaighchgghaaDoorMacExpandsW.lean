/-
  The walk of MacExpands. Conditions: what a row hands over.
-/
import Derived.Test.YtdojaighchgghaaDoorMacC
import Derived.Test.YtdojaighchgghaaDoorMacK
import Derived.Test.YtdojaighchgghaaDoorA
namespace Go.Proofs.YtdojaighchgghaaDoor
open Go.RowKit
set_option linter.unusedVariables false
set_option maxRecDepth 20000

theorem macExpand_bad (w : World) (p : Option Addr) (key : List UInt8) (A : Option Addr) (l c : Nat) (n : Int) (h : n < 0 ∨ 8160 < n) :
    Calls Tryd.prog 34 #[.pointer p, .agg (keyC key), .slice A l c, .int .i64 n] w (RetV w (.tuple #[.slice none 0 0, .int .i64 1])) := by
  by_cases h0 : n < 0
  · have d1 : decide (n < 0) = true := by simp; omega
    clear h
    go_enter Tryd.func34, Tryd.ntmps34
    go_wp2_with ((with_reducible refine wpList_box_row (o := ⟨some 5, _, _, _, _, _⟩) rfl 33 (.tmp 1) rfl (keyC key) (by with_unfolding_all rfl) ?_); intro g1 w1 n1)
    go_ret2
    exact ⟨rfl, below_size n1.below ((Below.refl _ _).alloc (Nat.le_refl _) _)⟩
  · have d1 : decide (n < 0) = false := by simp; omega
    have d2 : decide (8160 < n) = true := by simp; omega
    clear h
    go_enter Tryd.func34, Tryd.ntmps34
    go_wp2_with ((with_reducible refine wpList_box_row (o := ⟨some 5, _, _, _, _, _⟩) rfl 33 (.tmp 1) rfl (keyC key) (by with_unfolding_all rfl) ?_); intro g1 w1 n1)
    go_ret2
    exact ⟨rfl, below_size n1.below ((Below.refl _ _).alloc (Nat.le_refl _) _)⟩

set_option maxHeartbeats 2000000 in
theorem macExpands_high (w : World) (hq : Tabs w) (key : List UInt8) (hk : key.length = 32) (v : Value) (info : List UInt8) (hb : Bs w v info) (n : Int) (h : 8160 < n) (hn : n ≤ 9223372036854775807) (hil : info.length ≤ 200) :
    Calls Tryd.prog 10 #[keyV key, v, .int .i64 n] w (RetV w (.bool true)) := by
  have HQ := Lib.hid hq
  have HVB := Lib.hid hb
  have HK := Lib.hid hk
  obtain ⟨BA, BC, rfl, x1, x2, x3⟩ := hb
  unfold maxLen at x2
  clear hq x3 hk
  have d1 : decide ((200 : Int) < (info.length : Int)) = false := by simp; omega
  have d2 : decide (400 < n) = true := by simp; omega
  have d3 : decide (n ≤ 8160) = false := by simp; omega
  have hbad : n < 0 ∨ 8160 < n := .inr h
  clear h
  go_enter Tryd.func10, Tryd.ntmps10
  go_wp2_with ((with_reducible refine wpList_box_row (o := ⟨some 3, _, _, _, _, _⟩) rfl 33 (.tmp 0) rfl (keyC key) (by with_unfolding_all rfl) ?_); intro g0 w0 n0)
  refine (macAwake_true _ (HQ.out.below n0.below)).mono ?_
  intro e w1 h
  obtain ⟨he, b1⟩ := h
  subst he
  have B1 := Lib.hid (below_size n0.below b1)
  have K1 := Lib.hid (n0.row.kept b1)
  clear b1 n0
  go_wp2_with fail
  refine (New_any _ false).mono ?_
  intro e w2 h
  obtain ⟨g, he, n2⟩ := h
  subst he
  have R2 := Lib.hid (Run.new HQ.out B1.out n2)
  have K2 := Lib.hid (K1.out.kept n2.below)
  have hne : g0 ≠ g := by have := n2.spot; have := K1.out.lt; omega
  clear n2 B1 K1
  go_wp2_with (first
    | ((with_reducible refine wpList_box_row (o := ⟨some 29, _, _, _, _, _⟩) rfl 41 (.tmp 28) rfl (logC 0) (by with_unfolding_all rfl) ?_); intro gl w3 n3)
    | (with_reducible refine wpList_load_row (o := ⟨some 32, _, _, _, _, _⟩) rfl 33 (.tmp 3) rfl g0 (by with_unfolding_all rfl) 33 (keyC key) (0, 0) (.array 32 5) (by with_unfolding_all exact (K2.out.kept n3.below)) Tryd.underlying33 rfl (Tryd.sizeKey key HK.out) ?_))
  have R3 := Lib.hid (R2.out.kept n3.below)
  have K3 := Lib.hid (K2.out.kept n3.below)
  have L3 := Lib.hid n3.row
  have hle : gl ≠ g := by have := n3.spot; have := R2.out.row.lt; omega
  have hlw : w.heap.size ≤ gl := by have := n3.spot; have := R2.out.below.size; omega
  have V3 := Lib.hid (HVB.out.below R3.out.below)
  clear n3 K2 R2
  refine (macExpand_bad w3 _ key BA info.length BC n hbad).mono ?_
  intro e w4 h
  obtain ⟨he, b4⟩ := h
  subst he
  have K4 := Lib.hid (K3.out.kept b4)
  have B4 := Lib.hid (below_size R3.out.below b4)
  clear b4 K3 R3
  go_wp2_with (with_reducible refine wpList_load_row (o := ⟨some 40, _, _, _, _, _⟩) rfl 33 (.tmp 3) rfl g0 (by with_unfolding_all rfl) 33 (keyC key) (0, 0) (.array 32 5) (by with_unfolding_all exact K4.out) Tryd.underlying33 rfl (Tryd.sizeKey key HK.out) ?_)
  refine (refExpand_arg w4 _ _ key n hbad).mono ?_
  intro e w5 h
  obtain ⟨he, b5⟩ := h
  subst he
  have B5 := Lib.hid (below_size B4.out b5)
  clear b5 B4 K4
  go_wp2_with fail
  refine (refSame w5 _ _ _ _ (Bs.nil _) (Bs.nil _)).mono ?_
  intro e w6 h
  obtain ⟨he, nn, hw⟩ := h
  subst he
  subst hw
  rw [beq_self_eq_true]
  go_wp2
  go_ret
  exact ⟨rfl, below_drewN B5.out nn⟩

set_option maxHeartbeats 2000000 in
theorem macExpands_low (w : World) (hq : Tabs w) (key : List UInt8) (hk : key.length = 32) (v : Value) (info : List UInt8) (hb : Bs w v info) (n : Int) (h : n < 0) (hn : -9223372036854775808 ≤ n) (hil : info.length ≤ 200) :
    Calls Tryd.prog 10 #[keyV key, v, .int .i64 n] w (RetV w (.bool true)) := by
  have HQ := Lib.hid hq
  have HVB := Lib.hid hb
  have HK := Lib.hid hk
  obtain ⟨BA, BC, rfl, x1, x2, x3⟩ := hb
  unfold maxLen at x2
  clear hq x3 hk
  have d1 : decide ((200 : Int) < (info.length : Int)) = false := by simp; omega
  have d2 : decide (400 < n) = false := by simp; omega
  have hbad : n < 0 ∨ 8160 < n := .inl h
  clear h
  go_enter Tryd.func10, Tryd.ntmps10
  go_wp2_with ((with_reducible refine wpList_box_row (o := ⟨some 3, _, _, _, _, _⟩) rfl 33 (.tmp 0) rfl (keyC key) (by with_unfolding_all rfl) ?_); intro g0 w0 n0)
  refine (macAwake_true _ (HQ.out.below n0.below)).mono ?_
  intro e w1 h
  obtain ⟨he, b1⟩ := h
  subst he
  have B1 := Lib.hid (below_size n0.below b1)
  have K1 := Lib.hid (n0.row.kept b1)
  clear b1 n0
  go_wp2_with fail
  refine (New_any _ false).mono ?_
  intro e w2 h
  obtain ⟨g, he, n2⟩ := h
  subst he
  have R2 := Lib.hid (Run.new HQ.out B1.out n2)
  have K2 := Lib.hid (K1.out.kept n2.below)
  have hne : g0 ≠ g := by have := n2.spot; have := K1.out.lt; omega
  clear n2 B1 K1
  go_wp2_with (first
    | ((with_reducible refine wpList_box_row (o := ⟨some 29, _, _, _, _, _⟩) rfl 41 (.tmp 28) rfl (logC 0) (by with_unfolding_all rfl) ?_); intro gl w3 n3)
    | (with_reducible refine wpList_load_row (o := ⟨some 32, _, _, _, _, _⟩) rfl 33 (.tmp 3) rfl g0 (by with_unfolding_all rfl) 33 (keyC key) (0, 0) (.array 32 5) (by with_unfolding_all exact (K2.out.kept n3.below)) Tryd.underlying33 rfl (Tryd.sizeKey key HK.out) ?_))
  have R3 := Lib.hid (R2.out.kept n3.below)
  have K3 := Lib.hid (K2.out.kept n3.below)
  have L3 := Lib.hid n3.row
  have hle : gl ≠ g := by have := n3.spot; have := R2.out.row.lt; omega
  have hlw : w.heap.size ≤ gl := by have := n3.spot; have := R2.out.below.size; omega
  have V3 := Lib.hid (HVB.out.below R3.out.below)
  clear n3 K2 R2
  refine (macExpand_bad w3 _ key BA info.length BC n hbad).mono ?_
  intro e w4 h
  obtain ⟨he, b4⟩ := h
  subst he
  have K4 := Lib.hid (K3.out.kept b4)
  have B4 := Lib.hid (below_size R3.out.below b4)
  clear b4 K3 R3
  go_wp2_with (with_reducible refine wpList_load_row (o := ⟨some 40, _, _, _, _, _⟩) rfl 33 (.tmp 3) rfl g0 (by with_unfolding_all rfl) 33 (keyC key) (0, 0) (.array 32 5) (by with_unfolding_all exact K4.out) Tryd.underlying33 rfl (Tryd.sizeKey key HK.out) ?_)
  refine (refExpand_arg w4 _ _ key n hbad).mono ?_
  intro e w5 h
  obtain ⟨he, b5⟩ := h
  subst he
  have B5 := Lib.hid (below_size B4.out b5)
  clear b5 B4 K4
  go_wp2_with fail
  refine (refSame w5 _ _ _ _ (Bs.nil _) (Bs.nil _)).mono ?_
  intro e w6 h
  obtain ⟨he, nn, hw⟩ := h
  subst he
  subst hw
  rw [beq_self_eq_true]
  go_wp2
  go_ret
  exact ⟨rfl, below_drewN B5.out nn⟩

set_option maxHeartbeats 2000000 in
theorem macExpands_in (w : World) (hq : Tabs w) (key : List UInt8) (hk : key.length = 32) (v : Value) (info : List UInt8) (hb : Bs w v info) (a : Nat) (h : a ≤ 400) (hil : info.length ≤ 200) :
    Calls Tryd.prog 10 #[keyV key, v, .int .i64 (a : Int)] w (RetV w (.bool true)) := by
  have HQ := Lib.hid hq
  have HVB := Lib.hid hb
  have HK := Lib.hid hk
  obtain ⟨BA, BC, rfl, x1, x2, x3⟩ := hb
  unfold maxLen at x2
  clear hq x3 hk
  have d1 : decide ((200 : Int) < (info.length : Int)) = false := by simp; omega
  have d2 : decide (400 < (a : Int)) = false := by simp; omega
  obtain ⟨X, hX⟩ : ∃ X, X = (outT key info ((a + 31) / 32)).take a := ⟨_, rfl⟩
  have HLA : Hid (X.length = a) := by show _ = _; rw [hX, List.length_take, outT_length]; omega
  have HX := Lib.hid hX
  clear hX
  go_enter Tryd.func10, Tryd.ntmps10
  go_wp2_with ((with_reducible refine wpList_box_row (o := ⟨some 3, _, _, _, _, _⟩) rfl 33 (.tmp 0) rfl (keyC key) (by with_unfolding_all rfl) ?_); intro g0 w0 n0)
  refine (macAwake_true _ (HQ.out.below n0.below)).mono ?_
  intro e w1 h
  obtain ⟨he, b1⟩ := h
  subst he
  have B1 := Lib.hid (below_size n0.below b1)
  have K1 := Lib.hid (n0.row.kept b1)
  clear b1 n0
  go_wp2_with fail
  refine (New_any _ false).mono ?_
  intro e w2 h
  obtain ⟨g, he, n2⟩ := h
  subst he
  have R2 := Lib.hid (Run.new HQ.out B1.out n2)
  have K2 := Lib.hid (K1.out.kept n2.below)
  have hne : g0 ≠ g := by have := n2.spot; have := K1.out.lt; omega
  clear n2 B1 K1
  go_wp2_with (first
    | ((with_reducible refine wpList_box_row (o := ⟨some 29, _, _, _, _, _⟩) rfl 41 (.tmp 28) rfl (logC 0) (by with_unfolding_all rfl) ?_); intro gl w3 n3)
    | (with_reducible refine wpList_load_row (o := ⟨some 32, _, _, _, _, _⟩) rfl 33 (.tmp 3) rfl g0 (by with_unfolding_all rfl) 33 (keyC key) (0, 0) (.array 32 5) (by with_unfolding_all exact (K2.out.kept n3.below)) Tryd.underlying33 rfl (Tryd.sizeKey key HK.out) ?_))
  have R3 := Lib.hid (R2.out.kept n3.below)
  have K3 := Lib.hid (K2.out.kept n3.below)
  have L3 := Lib.hid n3.row
  have hle : gl ≠ g := by have := n3.spot; have := R2.out.row.lt; omega
  have hlw : w.heap.size ≤ gl := by have := n3.spot; have := R2.out.below.size; omega
  have V3 := Lib.hid (HVB.out.below R3.out.below)
  clear n3 K2 R2
  refine (macExpand_any w w3 g 0 R3.out.self (by omega) key HK.out (.slice BA info.length BC) info V3.out (by omega) a (by omega)).mono ?_
  intro e w4 h
  obtain ⟨u4, n4, hn4, he, hu4, r4⟩ := h
  subst he
  have K4 := Lib.hid (r4.other K3.out hne)
  have L4 := Lib.hid (r4.other L3.out hle)
  have V4 := Lib.hid (r4.bs V3.out)
  have R4 := Lib.hid (R3.out.trans r4)
  rw [← HX.out] at hu4
  have U4 := Lib.hid hu4
  obtain ⟨A4, c4, hv4, y1, y2, _⟩ := hu4
  rw [HLA.out] at hv4
  subst hv4
  clear r4 K3 V3 R3 L3 y1 y2
  go_wp2_with (with_reducible refine wpList_load_row (o := ⟨some 40, _, _, _, _, _⟩) rfl 33 (.tmp 3) rfl g0 (by with_unfolding_all rfl) 33 (keyC key) (0, 0) (.array 32 5) (by with_unfolding_all exact K4.out) Tryd.underlying33 rfl (Tryd.sizeKey key HK.out) ?_)
  refine (refExpand_any w w4 gl 0 a (.slice BA info.length BC) key info (LogR.new R4.out.below L4.out hlw).self (by omega) HK.out V4.out (by omega) (by omega)).mono ?_
  intro e w5 h
  obtain ⟨u5, n5, hn5, he, hu5, r5⟩ := h
  subst he
  have U45 := Lib.hid (r5.bs U4.out)
  have B5 := Lib.hid r5.below
  rw [← HX.out] at hu5
  have U5 := Lib.hid hu5
  obtain ⟨A5, c5, hv5, y1, y2, _⟩ := hu5
  rw [HLA.out] at hv5
  subst hv5
  clear r5 K4 V4 R4 L4 U4 y1 y2
  go_wp2_with fail
  refine (refSame w5 _ _ _ _ U45.out U5.out).mono ?_
  intro e w6 h
  obtain ⟨he, nn, hw⟩ := h
  subst he
  subst hw
  rw [beq_self_eq_true]
  go_wp2
  go_ret
  exact ⟨rfl, below_drewN B5.out nn⟩

set_option maxHeartbeats 4000000 in
theorem macExpands_walk (w : World) (hq : Tabs w) (key : List UInt8) (hk : key.length = 32) (v : Value) (info : List UInt8) (hb : Bs w v info) (n : Int) (hn : -9223372036854775808 ≤ n ∧ n ≤ 9223372036854775807) :
    Calls Tryd.prog 10 #[keyV key, v, .int .i64 n] w (RetV w (.bool true)) := by
  have HQ := Lib.hid hq
  have HVB := Lib.hid hb
  have HK := Lib.hid hk
  obtain ⟨BA, BC, rfl, x1, x2, x3⟩ := hb
  unfold maxLen at x2
  obtain ⟨hn1, hn2⟩ := hn
  clear hq x3 hk
  by_cases c1 : 200 < info.length
  · have d1 : decide ((200 : Int) < (info.length : Int)) = true := by simp; omega
    go_enter Tryd.func10, Tryd.ntmps10
    go_wp2_with ((with_reducible refine wpList_box_row (o := ⟨some 3, _, _, _, _, _⟩) rfl 33 (.tmp 0) rfl (keyC key) (by with_unfolding_all rfl) ?_); intro g0 w0 n0)
    refine (macAwake_true _ (HQ.out.below n0.below)).mono ?_
    intro e w1 h
    obtain ⟨he, b1⟩ := h
    subst he
    go_wp2
    go_ret
    exact ⟨rfl, below_size n0.below b1⟩
  have d1 : decide ((200 : Int) < (info.length : Int)) = false := by simp; omega
  have hil : info.length ≤ 20000 := by omega
  by_cases c2 : 400 < n
  · have d2 : decide (400 < n) = true := by simp; omega
    by_cases c3 : n ≤ 8160
    · have d3 : decide (n ≤ 8160) = true := by simp; omega
      go_enter Tryd.func10, Tryd.ntmps10
      go_wp2_with ((with_reducible refine wpList_box_row (o := ⟨some 3, _, _, _, _, _⟩) rfl 33 (.tmp 0) rfl (keyC key) (by with_unfolding_all rfl) ?_); intro g0 w0 n0)
      refine (macAwake_true _ (HQ.out.below n0.below)).mono ?_
      intro e w1 h
      obtain ⟨he, b1⟩ := h
      subst he
      go_wp2
      go_ret
      exact ⟨rfl, below_size n0.below b1⟩
    · have d3 : decide (n ≤ 8160) = false := by simp; omega
      exact macExpands_high w HQ.out key HK.out _ info HVB.out n (by omega) hn2 (by omega)
  by_cases c3 : n < 0
  · exact macExpands_low w HQ.out key HK.out _ info HVB.out n c3 hn1 (by omega)
  obtain ⟨a, rfl⟩ : ∃ a : Nat, n = (a : Int) := ⟨n.toNat, by omega⟩
  exact macExpands_in w HQ.out key HK.out _ info HVB.out a (by omega) (by omega)
end Go.Proofs.YtdojaighchgghaaDoor
