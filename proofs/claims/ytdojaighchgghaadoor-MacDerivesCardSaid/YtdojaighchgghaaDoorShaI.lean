/-
  Contract of cablegramlaw02.awake: the chapter's examples hold. Conditions: the two tables hold what the program's text lays.
-/
import Derived.Test.YtdojaighchgghaaDoorShaH
import Derived.Test.YtdojaighchgghaaDoorShaD
namespace Go.Proofs.YtdojaighchgghaaDoor
open Go.RowKit
set_option linter.unusedVariables false
set_option maxRecDepth 20000

theorem Bs.meter {w w' : World} {v : Value} {l : List UInt8} {g n k c : Nat} {t : TypeId} {keep : Bool} {A : Option Addr} (h : Bs w v l) (hr : RowAt w g t (meterC keep n (.slice A k c))) (hg : w.grownBy w' (some g)) : Bs w' v l := by
  obtain ⟨B, d, rfl, h1, h2, h3⟩ := h
  refine ⟨B, d, rfl, h1, h2, fun h0 => ?_⟩
  obtain ⟨b, off, hA, hc⟩ := h3 h0
  refine ⟨b, off, hA, fun j hj => ?_⟩
  have hcj := hc j hj
  have hb : b ≠ g := by
    intro e
    subst e
    rw [hr.cell] at hcj
    simp only [meterC] at hcj
    rcases hx : off + j with _ | _ | _ | _ | _ | m <;> rw [hx] at hcj <;> simp at hcj
  exact (World.cell?_of_block (a := ⟨b, off + j, none⟩) (hg.block _ (World.block_lt_of_cell? w _ hcj) (by intro e; injection e with e; exact hb e))).trans hcj
/-- What a call has of a Meter that it made: the Meter's row, the tables, and what was there before. -/
structure Meet (w0 : World) (g n : Nat) (w : World) : Prop where
  below : Below w0.heap.size w0 w
  row : RowAt w g 83 (meterC false n (.slice none 0 0))
  tabs : Tabs w
  far : w0.heap.size ≤ g
theorem Meet.kept {w0 w w' : World} {g n : Nat} (h : Meet w0 g n w) (hb : Below w.heap.size w w') : Meet w0 g n w' :=
  ⟨below_size h.below hb, h.row.kept hb, h.tabs.below hb, h.far⟩
theorem Meet.new {w0 w w' : World} {g : Nat} (ht : Tabs w) (hb : Below w0.heap.size w0 w) (h : NewRow w g 83 (meterC false 0 (.slice none 0 0)) w') : Meet w0 g 0 w' :=
  ⟨below_size hb h.below, h.row, ht.below h.below, by rw [h.spot]; exact hb.size⟩
/-- What a Sum leaves as it was: every row but the Meter's, and all bytes. -/
structure LeftBut (w w' : World) (g : Nat) : Prop where
  row : ∀ x t cs, x ≠ g → RowAt w x t cs → RowAt w' x t cs
  bs : ∀ v l, Bs w v l → Bs w' v l
  size : w.heap.size ≤ w'.heap.size
theorem LeftBut.of {w0 w w' : World} {g n : Nat} (h : Meet w0 g n w) (hg : w.grownBy w' (some g)) : LeftBut w w' g :=
  ⟨fun x t cs hx hr => hr.grown hg (by intro e; injection e with e; exact hx e), fun v l hv => hv.meter h.row hg, hg.size⟩

theorem Sum_meet (w0 w : World) (g n : Nat) (v : Value) (ls : List (List UInt8)) (d : List UInt8) (h : Meet w0 g n w) (hn : n ≤ 1000000000) (hd : d = digestB ls.flatten) (hb : Bss w v ls) (hl : ls.flatten.length ≤ 1000000) (hm : ls.length ≤ 1000000) :
    Calls Tryd.prog 21 #[.pointer (some ⟨g, 0, none⟩), v] w fun e w' => e = .returned (.agg (keyC d)) ∧ Meet w0 g (n + 1) w' ∧ LeftBut w w' g := by
  refine (Sum_is w h.tabs g n _ v ls d hd hn h.row hb hl hm).mono fun e w' hp => ?_
  obtain ⟨he, hr, hg⟩ := hp
  exact ⟨he, ⟨h.below.grown hg h.below.size (fun k e => by injection e with e; rw [← e]; exact h.far), hr, sum_tabs h.tabs h.row hg, h.far⟩, LeftBut.of h hg⟩

theorem Bs.cutAt {w : World} {b off n c : Nat} {l : List UInt8} (h : Bs w (.slice (some ⟨b, off, none⟩) n c) l) (k : Nat) (hk : k ≤ l.length) (hc : c ≠ k) :
    Bs w (.slice (some ⟨b, off + k, none⟩) (l.length - k) (c - k)) (l.drop k) := by
  have h2 := h.cut k hk
  have hadd : (⟨b, off, none⟩ : Addr).add k = ⟨b, off + k, none⟩ := by unfold Addr.add; split <;> simp_all
  rw [if_neg hc, Option.map_some, hadd] at h2
  exact h2
theorem size_alloc (w : World) (o : Obj) : (w.alloc o).heap.size = w.heap.size + 1 := by simp
theorem alloc_below (w : World) (o : Obj) : Below w.heap.size w (w.alloc o) := (Below.refl _ w).alloc (Nat.le_refl _) o
theorem row32 {w : World} {g : Nat} {t : TypeId} {l : List UInt8} (h : RowAt w g t (keyC l)) (hl : l.length = 32) : Bs w (.slice (some ⟨g, 0, none⟩) 32 32) l := by
  have := row_bs h (by rw [hl]; unfold maxLen; omega)
  rwa [hl] at this
theorem row28 {w : World} {g : Nat} {t : TypeId} {l : List UInt8} (h : RowAt w g t (keyC l)) (hl : l.length = 32) : Bs w (.slice (some ⟨g, 28, none⟩) 4 4) (l.drop 28) := by
  have := Bs.part h 28 4 4 (by omega) (Nat.le_refl _) (by unfold maxLen; omega)
  rwa [List.take_of_length_le (by rw [List.length_drop]; omega)] at this

set_option maxHeartbeats 2000000 in
theorem awake_true (w : World) (hq : Tabs w) : Calls Tryd.prog 14 #[] w (RetV w (.bool true)) := by
  have HQ := Lib.hid hq
  clear hq
  obtain ⟨d0, hd0⟩ : ∃ d, d = digestB ([] : List (List UInt8)).flatten := ⟨_, rfl⟩
  obtain ⟨d1, hd1⟩ : ∃ d, d = digestB [[97, 98, 99]].flatten := ⟨_, rfl⟩
  have HD0 := Lib.hid hd0
  have HD1 := Lib.hid hd1
  have HD2 : Hid (d1 = digestB [[97], [98, 99]].flatten) := hd1
  have L0 : Hid (d0.length = 32) := by show _ = _; rw [hd0, digestB_length]
  have L1 : Hid (d1.length = 32) := by show _ = _; rw [hd1, digestB_length]
  have F0 : Hid (∀ x v, Bs x v d0 → Calls Tryd.prog 38 #[v] x fun e w' => e = .returned (.int .u64 3820012610) ∧ w' = x) := fun x v h => by
    have := first_any x v d0 h (by rw [L0.out]; omega)
    rw [HD0.out] at this
    rwa [show (ofHighB ((digestB ([] : List (List UInt8)).flatten).take 4) : Int) = 3820012610 from abc_a] at this
  have F1 : Hid (∀ x v, Bs x v (d0.drop 28) → Calls Tryd.prog 38 #[v] x fun e w' => e = .returned (.int .u64 2018687061) ∧ w' = x) := fun x v h => by
    have := first_any x v _ h (by rw [List.length_drop, L0.out]; omega)
    rw [HD0.out] at this
    rwa [show (ofHighB (((digestB ([] : List (List UInt8)).flatten).drop 28).take 4) : Int) = 2018687061 from abc_b] at this
  have F2 : Hid (∀ x v, Bs x v d1 → Calls Tryd.prog 38 #[v] x fun e w' => e = .returned (.int .u64 3128432319) ∧ w' = x) := fun x v h => by
    have := first_any x v d1 h (by rw [L1.out]; omega)
    rw [HD1.out] at this
    rwa [show (ofHighB ((digestB ([[97, 98, 99]] : List (List UInt8)).flatten).take 4) : Int) = 3128432319 from abc_c] at this
  have F3 : Hid (∀ x v, Bs x v (d1.drop 28) → Calls Tryd.prog 38 #[v] x fun e w' => e = .returned (.int .u64 4060091821) ∧ w' = x) := fun x v h => by
    have := first_any x v _ h (by rw [List.length_drop, L1.out]; omega)
    rw [HD1.out] at this
    rwa [show (ofHighB (((digestB ([[97, 98, 99]] : List (List UInt8)).flatten).drop 28).take 4) : Int) = 4060091821 from abc_d] at this
  clear hd0 hd1
  go_enter Tryd.func14, Tryd.ntmps14
  go_wp2_with fail
  refine (New_any _ false).mono ?_
  rintro e w1 ⟨gm, rfl, n1⟩
  have M1 := Lib.hid (Meet.new HQ.out (Below.refl _ _) n1)
  clear n1 HQ
  go_wp2_with fail
  refine (Sum_meet w w1 gm 0 _ [] d0 M1.out (by omega) HD0.out (Bss.nil _) (by simp) (by simp)).mono ?_
  intro e w2 h
  obtain ⟨he, m2, _⟩ := h
  subst he
  have M2 := Lib.hid m2
  clear m2 M1
  go_wp2_with (first
    | ((with_reducible refine wpList_alloc_row (o := ⟨some 2, _, _, _, _, _⟩) rfl 33 rfl (keyC zeroKey) Tryd.zeroK ?_); intro g3 w3 n3)
    | ((with_reducible refine wpList_store_row (o := ⟨none, _, _, _, _, _⟩) rfl 33 (.tmp 2) (.tmp 9) rfl g3 33 _ (keyC d0) (by with_unfolding_all rfl) (by with_unfolding_all rfl) n3.row (keyC_same zeroKey_length L0.out) (Tryd.sizeKey d0 L0.out) (keyC_one d0) ?_); intro w4 p4))
  have M4 := Lib.hid (M2.out.kept (laid_put n3 p4).1)
  have R4 := Lib.hid p4.row
  have h3m : g3 ≠ gm := by have := n3.spot; have := M2.out.row.lt; omega
  clear n3 p4 M2
  have hb3 : Bs (w4.alloc (.cells #[.int .u8 97, .int .u8 98, .int .u8 99] 5)) (.slice (some ⟨w4.heap.size, 0, none⟩) 3 3) [97, 98, 99] := Bs.lit w4 _ [97, 98, 99] _ rfl (by unfold maxLen; simp)
  have hs3 := Bss.one _ 27 _ _ hb3
  rw [size_alloc] at hs3
  have HS3 := Lib.hid hs3
  clear hb3 hs3
  refine (Sum_meet w _ gm _ _ [[97, 98, 99]] d1 (by exact (M4.out.kept (alloc_below _ _)).kept (alloc_below _ _)) (by omega) HD1.out (by exact HS3.out) (by simp) (by simp)).mono ?_
  intro e w5 h
  obtain ⟨he, m5, g5⟩ := h
  subst he
  have M5 := Lib.hid m5
  have R5 := Lib.hid (g5.row _ _ _ h3m ((R4.out.kept (alloc_below _ _)).kept (alloc_below _ _)))
  clear m5 g5 M4 R4 HS3
  go_wp2_with (first
    | ((with_reducible refine wpList_alloc_row (o := ⟨some 3, _, _, _, _, _⟩) rfl 33 rfl (keyC zeroKey) Tryd.zeroK ?_); intro g6 w6 n6)
    | ((with_reducible refine wpList_store_row (o := ⟨none, _, _, _, _, _⟩) rfl 33 (.tmp 3) (.tmp 13) rfl g6 33 _ (keyC d1) (by with_unfolding_all rfl) (by with_unfolding_all rfl) n6.row (keyC_same zeroKey_length L1.out) (Tryd.sizeKey d1 L1.out) (keyC_one d1) ?_); intro w7 p7))
  have M7 := Lib.hid (M5.out.kept (laid_put n6 p7).1)
  have R7 := Lib.hid (R5.out.kept (laid_put n6 p7).1)
  have S7 := Lib.hid p7.row
  have h6m : g6 ≠ gm := by have := n6.spot; have := M5.out.row.lt; omega
  clear n6 p7 M5 R5
  have hb1 : Bs (w7.alloc (.cells #[.int .u8 97] 5)) (.slice (some ⟨w7.heap.size, 0, none⟩) 1 1) [97] := Bs.lit w7 _ [97] _ rfl (by unfold maxLen; simp)
  have hb2 : Bs ((w7.alloc (.cells #[.int .u8 97] 5)).alloc (.cells #[.int .u8 98, .int .u8 99] 5)) (.slice (some ⟨(w7.alloc (.cells #[.int .u8 97] 5)).heap.size, 0, none⟩) 2 2) [98, 99] := Bs.lit _ _ [98, 99] _ rfl (by unfold maxLen; simp)
  have hs3 := Bss.two _ 27 _ _ _ _ (hb1.below (alloc_below _ _)) hb2
  simp only [size_alloc] at hs3
  have HS3 := Lib.hid hs3
  clear hb1 hb2 hs3
  go_wp2_with fail
  refine (Sum_meet w _ gm _ _ [[97], [98, 99]] d1 (by exact ((M7.out.kept (alloc_below _ _)).kept (alloc_below _ _)).kept (alloc_below _ _)) (by omega) HD2.out (by exact HS3.out) (by simp) (by simp)).mono ?_
  intro e w8 h
  obtain ⟨he, m8, g8⟩ := h
  subst he
  have M8 := Lib.hid m8
  have R8 := Lib.hid (g8.row _ _ _ h3m (((R7.out.kept (alloc_below _ _)).kept (alloc_below _ _)).kept (alloc_below _ _)))
  have S8 := Lib.hid (g8.row _ _ _ h6m (((S7.out.kept (alloc_below _ _)).kept (alloc_below _ _)).kept (alloc_below _ _)))
  clear m8 g8 M7 R7 S7 HS3
  go_wp2_with (first
    | ((with_reducible refine wpList_alloc_row (o := ⟨some 4, _, _, _, _, _⟩) rfl 33 rfl (keyC zeroKey) Tryd.zeroK ?_); intro g9 w9 n9)
    | ((with_reducible refine wpList_store_row (o := ⟨none, _, _, _, _, _⟩) rfl 33 (.tmp 4) (.tmp 18) rfl g9 33 _ (keyC d1) (by with_unfolding_all rfl) (by with_unfolding_all rfl) n9.row (keyC_same zeroKey_length L1.out) (Tryd.sizeKey d1 L1.out) (keyC_one d1) ?_); intro w10 p10))
  have B10 := Lib.hid (below_size M8.out.below (laid_put n9 p10).1)
  have R10 := Lib.hid (R8.out.kept (laid_put n9 p10).1)
  have S10 := Lib.hid (S8.out.kept (laid_put n9 p10).1)
  have T10 := Lib.hid p10.row
  clear n9 p10 M8 R8 S8
  refine (Pad_any _ 55 (by omega)).mono ?_
  intro e w11 h
  obtain ⟨u, he, hu, b11⟩ := h
  subst he
  have B11 := Lib.hid (below_size B10.out b11)
  have R11 := Lib.hid (R10.out.kept b11)
  have S11 := Lib.hid (S10.out.kept b11)
  have T11 := Lib.hid (T10.out.kept b11)
  obtain ⟨A, c, rfl, _, _, _⟩ := hu
  rw [show (padB 55).length = 9 by rw [padB_length]]
  clear b11 B10 R10 S10 T10
  go_wp2_with fail
  refine (Pad_any _ 56 (by omega)).mono ?_
  intro e w12 h
  obtain ⟨u, he, hu, b12⟩ := h
  subst he
  have B12 := Lib.hid (below_size B11.out b12)
  have R12 := Lib.hid (R11.out.kept b12)
  have S12 := Lib.hid (S11.out.kept b12)
  have T12 := Lib.hid (T11.out.kept b12)
  obtain ⟨A2, c2, rfl, _, _, _⟩ := hu
  rw [show (padB 56).length = 72 by rw [padB_length]]
  clear b12 B11 R11 S11 T11
  have hsl := fun x : World => run_sliceArrL (P := Tryd.prog) x 33 5 32 Tryd.underlying33 Tryd.sizeB g3 0 28 28 rfl (by omega)
  go_wp2_with fail
  refine (F0.out _ _ (row32 R12.out L0.out)).mono ?_
  intro e x h
  obtain ⟨he, hw⟩ := h
  subst he hw
  go_wp2_with fail
  refine (F1.out _ _ (row28 R12.out L0.out)).mono ?_
  intro e x h
  obtain ⟨he, hw⟩ := h
  subst he hw
  clear hsl
  have hsl := fun x : World => run_sliceArrL (P := Tryd.prog) x 33 5 32 Tryd.underlying33 Tryd.sizeB g6 0 28 28 rfl (by omega)
  go_wp2_with fail
  refine (F2.out _ _ (row32 S12.out L1.out)).mono ?_
  intro e x h
  obtain ⟨he, hw⟩ := h
  subst he hw
  go_wp2_with fail
  refine (F3.out _ _ (row28 S12.out L1.out)).mono ?_
  intro e x h
  obtain ⟨he, hw⟩ := h
  subst he hw
  clear hsl
  have heq := fun w => Tryd.eqKeyIn2 d1 d1 L1.out L1.out w
  rw [beq_self_eq_true] at heq
  have hgd := Tryd.eqGuardKey2
  go_wp2_with (first
    | (with_reducible refine wpListG_load_row (o := ⟨some 40, _, _, _, _, _⟩) 33 (.tmp 3) rfl (by with_unfolding_all rfl) g6 (by with_unfolding_all rfl) 33 (keyC d1) (.array 32 5) (by with_unfolding_all exact S12.out) Tryd.underlying33 rfl (Tryd.sizeKey d1 L1.out) ?_)
    | (with_reducible refine wpListG_load_row (o := ⟨some 41, _, _, _, _, _⟩) 33 (.tmp 4) rfl (by with_unfolding_all rfl) g9 (by with_unfolding_all rfl) 33 (keyC d1) (.array 32 5) (by with_unfolding_all exact T12.out) Tryd.underlying33 rfl (Tryd.sizeKey d1 L1.out) ?_))
  go_ret
  exact ⟨rfl, B12.out⟩
end Go.Proofs.YtdojaighchgghaaDoor
