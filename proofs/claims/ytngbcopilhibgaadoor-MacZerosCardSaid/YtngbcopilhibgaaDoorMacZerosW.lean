/-
  The walk of MacZeros. Conditions: what a row hands over.
-/
import Derived.Test.YtngbcopilhibgaaDoorMacC
import Derived.Test.YtngbcopilhibgaaDoorAppZ
namespace Go.Proofs.YtngbcopilhibgaaDoor
open Go.RowKit
set_option linter.unusedVariables false
set_option maxRecDepth 20000

theorem mac_long (key msg : List UInt8) (h : 64 < key.length) : macB (digestB key) msg = macB key msg := by
  have e : blockK (digestB key) = blockK key := by
    unfold blockK
    rw [if_pos h, if_neg (by rw [digestB_length]; omega)]
  rw [macB, macB, e]
theorem mac_zeros (key msg : List UInt8) (k : Nat) (h : key.length + k ≤ 64) : macB (([] ++ key) ++ List.replicate k 0) msg = macB key msg := by
  have e : blockK (([] ++ key) ++ List.replicate k 0) = blockK key := by
    unfold blockK
    rw [if_neg (by simp; omega), if_neg (by omega), fillB, fillB, List.nil_append, List.append_assoc, List.replicate_append_replicate, List.length_append, List.length_replicate]
    congr 2
    omega
  rw [macB, macB, e]

set_option maxHeartbeats 4000000 in
theorem macZeros_walk (w : World) (hq : Tabs w) (vk : Value) (key : List UInt8) (hk : Bs w vk key) (vb : Value) (b : List UInt8) (hb : Bs w vb b) (n : Int) (hn : -9223372036854775808 ≤ n ∧ n ≤ 9223372036854775807) :
    Calls Tryd.prog 13 #[vk, vb, .int .i64 n] w (RetV w (.bool true)) := by
  have HQ := Lib.hid hq
  have HVK := Lib.hid hk
  have HVB := Lib.hid hb
  obtain ⟨KA, KC, rfl, k1, k2, k3⟩ := hk
  obtain ⟨BA, BC, rfl, x1, x2, x3⟩ := hb
  unfold maxLen at k2 x2
  obtain ⟨hn1, hn2⟩ := hn
  clear hq k3 x3
  by_cases c1 : 200 < key.length
  · have d1 : decide ((200 : Int) < (key.length : Int)) = true := by simp; omega
    go_enter Tryd.func13, Tryd.ntmps13
    go_wp2_with fail
    refine (macAwake_true _ HQ.out).mono ?_
    intro e w1 h
    obtain ⟨he, b1⟩ := h
    subst he
    go_wp2
    go_ret
    exact ⟨rfl, b1⟩
  have d1 : decide ((200 : Int) < (key.length : Int)) = false := by simp; omega
  by_cases c2 : 300 < b.length
  · have d2 : decide ((300 : Int) < (b.length : Int)) = true := by simp; omega
    go_enter Tryd.func13, Tryd.ntmps13
    go_wp2_with fail
    refine (macAwake_true _ HQ.out).mono ?_
    intro e w1 h
    obtain ⟨he, b1⟩ := h
    subst he
    go_wp2
    go_ret
    exact ⟨rfl, b1⟩
  have d2 : decide ((300 : Int) < (b.length : Int)) = false := by simp; omega
  by_cases c3 : n < 0
  · have d3 : decide (n < 0) = true := by simp; omega
    go_enter Tryd.func13, Tryd.ntmps13
    go_wp2_with fail
    refine (macAwake_true _ HQ.out).mono ?_
    intro e w1 h
    obtain ⟨he, b1⟩ := h
    subst he
    go_wp2
    go_ret
    exact ⟨rfl, b1⟩
  have d3 : decide (n < 0) = false := by simp; omega
  by_cases c4 : 64 < n
  · have d4 : decide (64 < n) = true := by simp; omega
    go_enter Tryd.func13, Tryd.ntmps13
    go_wp2_with fail
    refine (macAwake_true _ HQ.out).mono ?_
    intro e w1 h
    obtain ⟨he, b1⟩ := h
    subst he
    go_wp2
    go_ret
    exact ⟨rfl, b1⟩
  have d4 : decide (64 < n) = false := by simp; omega
  obtain ⟨m, rfl⟩ : ∃ m : Nat, n = m := ⟨n.toNat, by omega⟩
  have hm64 : m ≤ 64 := by omega
  clear hn1 hn2 c3 c4
  obtain ⟨d, hd⟩ : ∃ d, d = macB key [b].flatten := ⟨_, rfl⟩
  have LD : Hid (d.length = 32) := by show _ = _; rw [hd, macB_length]
  have HMG : Hid (∀ kk, kk.length ≤ 100000 → macB kk [b].flatten = d → ∀ w0 x g n vk b' off c, Run w0 x g n x → n ≤ 100000000 → Bs x vk kk → Bss x (.slice (some ⟨b', off, none⟩) 1 c) [b] → b' ≠ g → Calls Tryd.prog 31 #[.pointer (some ⟨g, 0, none⟩), vk, .slice (some ⟨b', off, none⟩) 1 c] x fun e w' => ∃ n', n' ≤ n + 3 ∧ e = .returned (.agg (keyC d)) ∧ Run w0 x g n' w') := fun kk hkk he w0 x g n vk b' off c hr hn hk hv hb => by
    rw [← he]
    exact macSum_any w0 x g n vk kk b' off c [b] hr hn hk hkk hv hb (by simp) (by simp; omega) (by simp)
  have HM := Lib.hid (HMG.out key (by omega) hd.symm)
  by_cases c5 : 64 < key.length
  · have d5 : decide ((64 : Int) < (key.length : Int)) = true := by simp; omega
    obtain ⟨dk, hdk⟩ : ∃ dk, dk = digestB [key].flatten := ⟨_, rfl⟩
    have LDK : Hid (dk.length = 32) := by show _ = _; rw [hdk, digestB_length]
    have HM2 := Lib.hid (HMG.out dk (by rw [LDK.out]; omega) (by rw [hdk, hd, show [key].flatten = key by simp, mac_long key _ c5]))
    have HDK := Lib.hid hdk
    clear hd hdk HMG
    go_enter Tryd.func13, Tryd.ntmps13
    go_wp2_with fail
    refine (macAwake_true _ HQ.out).mono ?_
    intro e w1 h
    obtain ⟨he, b1⟩ := h
    subst he
    have B1 := Lib.hid b1
    clear b1
    go_wp2_with fail
    refine (New_any _ false).mono ?_
    intro e w2 h
    obtain ⟨g, he, n2⟩ := h
    subst he
    have R2 := Lib.hid (Run.new HQ.out B1.out n2)
    have hg2 : g < w2.heap.size := n2.row.lt
    clear n2 B1
    go_wp2_with fail
    refine (HM.out w _ g 0 _ _ _ _ (by exact (R2.out.kept (alloc_below _ _)).self) (by omega) (by exact (HVK.out.below R2.out.below).below (alloc_below _ _)) (by exact Bss.one _ _ _ _ (HVB.out.below R2.out.below)) (by omega)).mono ?_
    intro e w3 h
    obtain ⟨na, hna, he, r3⟩ := h
    subst he
    have R3 := Lib.hid r3.self
    clear r3 R2
    go_wp2_with (first
      | ((with_reducible refine wpList_alloc_row (o := ⟨some 9, _, _, _, _, _⟩) rfl 33 rfl (keyC zeroKey) Tryd.zeroK ?_); intro g4 w4 n4)
      | ((with_reducible refine wpList_store_row (o := ⟨none, _, _, _, _, _⟩) rfl 33 (.tmp 9) (.tmp 36) rfl g4 33 _ (keyC d) (by with_unfolding_all rfl) (by with_unfolding_all rfl) n4.row (keyC_same zeroKey_length LD.out) (Tryd.sizeKey d LD.out) (keyC_one d) ?_); intro w5 p4))
    have R5 := Lib.hid (R3.out.kept (laid_put n4 p4).1)
    have Q5 := Lib.hid p4.row
    have h4g : g4 ≠ g := by have := n4.spot; have := R3.out.glt; omega
    have hg5 : g < w5.heap.size := R5.out.row.lt
    clear n4 p4 R3
    refine (Sum_run w _ g na _ [key] dk (by exact (R5.out.kept (alloc_below _ _)).self) (by omega) HDK.out (by exact Bss.one _ _ _ _ (HVK.out.below R5.out.below)) (by simp; omega) (by simp)).mono ?_
    intro e w6 h
    obtain ⟨he, r6⟩ := h
    subst he
    have R6 := Lib.hid r6.self
    have Q6 := Lib.hid (r6.other (Q5.out.kept (alloc_below _ _)) h4g)
    clear r6 R5 Q5
    go_wp2_with (first
      | ((with_reducible refine wpList_alloc_row (o := ⟨some 10, _, _, _, _, _⟩) rfl 33 rfl (keyC zeroKey) Tryd.zeroK ?_); intro g7 w7 n7)
      | ((with_reducible refine wpList_store_row (o := ⟨none, _, _, _, _, _⟩) rfl 33 (.tmp 10) (.tmp 43) rfl g7 33 _ (keyC dk) (by with_unfolding_all rfl) (by with_unfolding_all rfl) n7.row (keyC_same zeroKey_length LDK.out) (Tryd.sizeKey dk LDK.out) (keyC_one dk) ?_); intro w8 p7))
    have b8 := (laid_put n7 p7).1
    have R8 := Lib.hid (R6.out.kept b8)
    have Q8 := Lib.hid (Q6.out.kept b8)
    have K8 := Lib.hid p7.row
    have hg8 : g < w8.heap.size := R8.out.row.lt
    clear n7 p7 b8 R6 Q6
    refine (HM2.out w _ g (na + 1) _ _ _ _ (by exact (R8.out.kept (alloc_below _ _)).self) (by omega) (by exact (row32 K8.out LDK.out).below (alloc_below _ _)) (by exact Bss.one _ _ _ _ (HVB.out.below R8.out.below)) (by omega)).mono ?_
    intro e w9 h
    obtain ⟨nb, hnb, he, r9⟩ := h
    subst he
    have B9 := Lib.hid r9.below
    have Q9 := Lib.hid (r9.other (Q8.out.kept (alloc_below _ _)) h4g)
    clear r9 R8 Q8 K8
    have heq := fun w => Tryd.eqKeyIn2 d d LD.out LD.out w
    rw [beq_self_eq_true] at heq
    have hgd := Tryd.eqGuardKey2
    go_wp2_with (first
      | ((with_reducible refine wpList_alloc_row (o := ⟨some 11, _, _, _, _, _⟩) rfl 33 rfl (keyC zeroKey) Tryd.zeroK ?_); intro g10 w10 n10)
      | ((with_reducible refine wpList_store_row (o := ⟨none, _, _, _, _, _⟩) rfl 33 (.tmp 11) (.tmp 48) rfl g10 33 _ (keyC d) (by with_unfolding_all rfl) (by with_unfolding_all rfl) n10.row (keyC_same zeroKey_length LD.out) (Tryd.sizeKey d LD.out) (keyC_one d) ?_); intro w11 p10; have b11 := (laid_put n10 p10).1; have B11 := Lib.hid (below_size B9.out b11); have Q11 := Lib.hid (Q9.out.kept b11); have S11 := Lib.hid p10.row; clear n10 p10 b11 B9 Q9)
      | (with_reducible refine wpListG_load_row (o := ⟨some 51, _, _, _, _, _⟩) 33 (.tmp 9) rfl (by with_unfolding_all rfl) g4 (by with_unfolding_all rfl) 33 (keyC d) (.array 32 5) (by with_unfolding_all exact Q11.out) Tryd.underlying33 rfl (Tryd.sizeKey d LD.out) ?_)
      | (with_reducible refine wpListG_load_row (o := ⟨some 52, _, _, _, _, _⟩) 33 (.tmp 11) rfl (by with_unfolding_all rfl) g10 (by with_unfolding_all rfl) 33 (keyC d) (.array 32 5) (by with_unfolding_all exact S11.out) Tryd.underlying33 rfl (Tryd.sizeKey d LD.out) ?_))
    go_ret
    exact ⟨rfl, B11.out⟩
  · have d5 : decide ((64 : Int) < (key.length : Int)) = false := by simp; omega
    obtain ⟨r, hr⟩ : ∃ r, r = 64 - key.length := ⟨_, rfl⟩
    have hri : (64 : Int) - (key.length : Int) = (r : Int) := by omega
    have hrk : key.length + r ≤ 64 := by omega
    clear hr
    by_cases hmr : m ≤ r
    · have HM2 := Lib.hid (HMG.out (([] ++ key) ++ List.replicate m 0) (by simp; omega) (by rw [hd, mac_zeros key _ m (by omega)]))
      have q1 : (m : Int) ≤ (r : Int) := by omega
      clear hd HMG
      go_enter Tryd.func13, Tryd.ntmps13
      go_wp2_with fail
      refine (macAwake_true _ HQ.out).mono ?_
      intro e w1 h
      obtain ⟨he, b1⟩ := h
      subst he
      have B1 := Lib.hid b1
      clear b1
      go_wp2_with fail
      refine (New_any _ false).mono ?_
      intro e w2 h
      obtain ⟨g, he, n2⟩ := h
      subst he
      have R2 := Lib.hid (Run.new HQ.out B1.out n2)
      have hg2 : g < w2.heap.size := n2.row.lt
      clear n2 B1
      go_wp2_with fail
      refine (HM.out w _ g 0 _ _ _ _ (by exact (R2.out.kept (alloc_below _ _)).self) (by omega) (by exact (HVK.out.below R2.out.below).below (alloc_below _ _)) (by exact Bss.one _ _ _ _ (HVB.out.below R2.out.below)) (by omega)).mono ?_
      intro e w3 h
      obtain ⟨na, hna, he, r3⟩ := h
      subst he
      have R3 := Lib.hid r3.self
      clear r3 R2
      go_wp2_with (first
        | ((with_reducible refine wpList_alloc_row (o := ⟨some 9, _, _, _, _, _⟩) rfl 33 rfl (keyC zeroKey) Tryd.zeroK ?_); intro g4 w4 n4)
        | ((with_reducible refine wpList_store_row (o := ⟨none, _, _, _, _, _⟩) rfl 33 (.tmp 9) (.tmp 36) rfl g4 33 _ (keyC d) (by with_unfolding_all rfl) (by with_unfolding_all rfl) n4.row (keyC_same zeroKey_length LD.out) (Tryd.sizeKey d LD.out) (keyC_one d) ?_); intro w5 p4; have R5 := Lib.hid (R3.out.kept (laid_put n4 p4).1); have Q5 := Lib.hid p4.row; have h4g : g4 ≠ g := (by have := n4.spot; have := R3.out.glt; omega); have hg5 : g < w5.heap.size := R5.out.row.lt; clear n4 p4 R3)
        | (at_builtin; refine wpList_appB _ rfl (.tmp 56) (.tmp 57) 27 rfl w5 5 Tryd.infoB Tryd.underlying27 _ _ [] key rfl rfl (OwnB.empty2 _ _ _ (Nat.le_refl _)) ((HVK.out.below R5.out.below).below (alloc_below _ _)) (by simp; omega) (alloc_below _ _) ?_; intro v6 w6 own6 b6)
        | (at_builtin; refine wpList_appZ _ rfl (.tmp 58) (.tmp 63) 27 3 rfl w5 5 .i64 Tryd.infoB Tryd.underlying27 Tryd.underlying3 v6 ([] ++ key) m rfl rfl own6 (by simp; omega) b6 ?_; intro v7 w7 own7 b7; have R7 := Lib.hid (R5.out.kept b7); have Q7 := Lib.hid (Q5.out.kept b7); have HO7 := Lib.hid own7.bs; have hg7 : g < w7.heap.size := R7.out.row.lt; clear own6 b6 own7 b7 R5 Q5))
      refine (HM2.out w _ g na _ _ _ _ (by exact (R7.out.kept (alloc_below _ _)).self) (by omega) (by exact HO7.out.below (alloc_below _ _)) (by exact Bss.one _ _ _ _ (HVB.out.below R7.out.below)) (by omega)).mono ?_
      intro e w9 h
      obtain ⟨nb, hnb, he, r9⟩ := h
      subst he
      have B9 := Lib.hid r9.below
      have Q9 := Lib.hid (r9.other (Q7.out.kept (alloc_below _ _)) h4g)
      clear r9 R7 Q7
      have heq := fun w => Tryd.eqKeyIn2 d d LD.out LD.out w
      rw [beq_self_eq_true] at heq
      have hgd := Tryd.eqGuardKey2
      go_wp2_with (first
        | ((with_reducible refine wpList_alloc_row (o := ⟨some 12, _, _, _, _, _⟩) rfl 33 rfl (keyC zeroKey) Tryd.zeroK ?_); intro g10 w10 n10)
        | ((with_reducible refine wpList_store_row (o := ⟨none, _, _, _, _, _⟩) rfl 33 (.tmp 12) (.tmp 67) rfl g10 33 _ (keyC d) (by with_unfolding_all rfl) (by with_unfolding_all rfl) n10.row (keyC_same zeroKey_length LD.out) (Tryd.sizeKey d LD.out) (keyC_one d) ?_); intro w11 p10; have b11 := (laid_put n10 p10).1; have B11 := Lib.hid (below_size B9.out b11); have Q11 := Lib.hid (Q9.out.kept b11); have S11 := Lib.hid p10.row; clear n10 p10 b11 B9 Q9)
        | (with_reducible refine wpListG_load_row (o := ⟨some 70, _, _, _, _, _⟩) 33 (.tmp 9) rfl (by with_unfolding_all rfl) g4 (by with_unfolding_all rfl) 33 (keyC d) (.array 32 5) (by with_unfolding_all exact Q11.out) Tryd.underlying33 rfl (Tryd.sizeKey d LD.out) ?_)
        | (with_reducible refine wpListG_load_row (o := ⟨some 71, _, _, _, _, _⟩) 33 (.tmp 12) rfl (by with_unfolding_all rfl) g10 (by with_unfolding_all rfl) 33 (keyC d) (.array 32 5) (by with_unfolding_all exact S11.out) Tryd.underlying33 rfl (Tryd.sizeKey d LD.out) ?_))
      go_ret
      exact ⟨rfl, B11.out⟩
    · have HM2 := Lib.hid (HMG.out (([] ++ key) ++ List.replicate r 0) (by simp; omega) (by rw [hd, mac_zeros key _ r (by omega)]))
      have q1 : ¬ (m : Int) ≤ (r : Int) := by omega
      clear hd HMG
      go_enter Tryd.func13, Tryd.ntmps13
      go_wp2_with fail
      refine (macAwake_true _ HQ.out).mono ?_
      intro e w1 h
      obtain ⟨he, b1⟩ := h
      subst he
      have B1 := Lib.hid b1
      clear b1
      go_wp2_with fail
      refine (New_any _ false).mono ?_
      intro e w2 h
      obtain ⟨g, he, n2⟩ := h
      subst he
      have R2 := Lib.hid (Run.new HQ.out B1.out n2)
      have hg2 : g < w2.heap.size := n2.row.lt
      clear n2 B1
      go_wp2_with fail
      refine (HM.out w _ g 0 _ _ _ _ (by exact (R2.out.kept (alloc_below _ _)).self) (by omega) (by exact (HVK.out.below R2.out.below).below (alloc_below _ _)) (by exact Bss.one _ _ _ _ (HVB.out.below R2.out.below)) (by omega)).mono ?_
      intro e w3 h
      obtain ⟨na, hna, he, r3⟩ := h
      subst he
      have R3 := Lib.hid r3.self
      clear r3 R2
      go_wp2_with (first
        | ((with_reducible refine wpList_alloc_row (o := ⟨some 9, _, _, _, _, _⟩) rfl 33 rfl (keyC zeroKey) Tryd.zeroK ?_); intro g4 w4 n4)
        | ((with_reducible refine wpList_store_row (o := ⟨none, _, _, _, _, _⟩) rfl 33 (.tmp 9) (.tmp 36) rfl g4 33 _ (keyC d) (by with_unfolding_all rfl) (by with_unfolding_all rfl) n4.row (keyC_same zeroKey_length LD.out) (Tryd.sizeKey d LD.out) (keyC_one d) ?_); intro w5 p4; have R5 := Lib.hid (R3.out.kept (laid_put n4 p4).1); have Q5 := Lib.hid p4.row; have h4g : g4 ≠ g := (by have := n4.spot; have := R3.out.glt; omega); have hg5 : g < w5.heap.size := R5.out.row.lt; clear n4 p4 R3)
        | (at_builtin; refine wpList_appB _ rfl (.tmp 56) (.tmp 57) 27 rfl w5 5 Tryd.infoB Tryd.underlying27 _ _ [] key rfl rfl (OwnB.empty2 _ _ _ (Nat.le_refl _)) ((HVK.out.below R5.out.below).below (alloc_below _ _)) (by simp; omega) (alloc_below _ _) ?_; intro v6 w6 own6 b6)
        | (at_builtin; refine wpList_appZ _ rfl (.tmp 58) (.tmp 63) 27 3 rfl w5 5 .i64 Tryd.infoB Tryd.underlying27 Tryd.underlying3 v6 ([] ++ key) r rfl rfl own6 (by simp; omega) b6 ?_; intro v7 w7 own7 b7; have R7 := Lib.hid (R5.out.kept b7); have Q7 := Lib.hid (Q5.out.kept b7); have HO7 := Lib.hid own7.bs; have hg7 : g < w7.heap.size := R7.out.row.lt; clear own6 b6 own7 b7 R5 Q5))
      refine (HM2.out w _ g na _ _ _ _ (by exact (R7.out.kept (alloc_below _ _)).self) (by omega) (by exact HO7.out.below (alloc_below _ _)) (by exact Bss.one _ _ _ _ (HVB.out.below R7.out.below)) (by omega)).mono ?_
      intro e w9 h
      obtain ⟨nb, hnb, he, r9⟩ := h
      subst he
      have B9 := Lib.hid r9.below
      have Q9 := Lib.hid (r9.other (Q7.out.kept (alloc_below _ _)) h4g)
      clear r9 R7 Q7
      have heq := fun w => Tryd.eqKeyIn2 d d LD.out LD.out w
      rw [beq_self_eq_true] at heq
      have hgd := Tryd.eqGuardKey2
      go_wp2_with (first
        | ((with_reducible refine wpList_alloc_row (o := ⟨some 12, _, _, _, _, _⟩) rfl 33 rfl (keyC zeroKey) Tryd.zeroK ?_); intro g10 w10 n10)
        | ((with_reducible refine wpList_store_row (o := ⟨none, _, _, _, _, _⟩) rfl 33 (.tmp 12) (.tmp 67) rfl g10 33 _ (keyC d) (by with_unfolding_all rfl) (by with_unfolding_all rfl) n10.row (keyC_same zeroKey_length LD.out) (Tryd.sizeKey d LD.out) (keyC_one d) ?_); intro w11 p10; have b11 := (laid_put n10 p10).1; have B11 := Lib.hid (below_size B9.out b11); have Q11 := Lib.hid (Q9.out.kept b11); have S11 := Lib.hid p10.row; clear n10 p10 b11 B9 Q9)
        | (with_reducible refine wpListG_load_row (o := ⟨some 70, _, _, _, _, _⟩) 33 (.tmp 9) rfl (by with_unfolding_all rfl) g4 (by with_unfolding_all rfl) 33 (keyC d) (.array 32 5) (by with_unfolding_all exact Q11.out) Tryd.underlying33 rfl (Tryd.sizeKey d LD.out) ?_)
        | (with_reducible refine wpListG_load_row (o := ⟨some 71, _, _, _, _, _⟩) 33 (.tmp 12) rfl (by with_unfolding_all rfl) g10 (by with_unfolding_all rfl) 33 (keyC d) (.array 32 5) (by with_unfolding_all exact S11.out) Tryd.underlying33 rfl (Tryd.sizeKey d LD.out) ?_))
      go_ret
      exact ⟨rfl, B11.out⟩
end Go.Proofs.YtngbcopilhibgaaDoor
