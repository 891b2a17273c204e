/-
  The walk of ShaBlocks. Conditions: what a row hands over.
-/
import Derived.Test.YtngbcopilhibgaaDoorShaI
import Derived.Test.YtngbcopilhibgaaDoorShaS
import Derived.Test.YtngbcopilhibgaaDoorShaT
import Derived.Test.YtngbcopilhibgaaDoorHeld
import Derived.Test.YtngbcopilhibgaaDoorArrEq
import Derived.Test.YtngbcopilhibgaaDoorSame
namespace Go.Proofs.YtngbcopilhibgaaDoor
open Go.RowKit
set_option linter.unusedVariables false
set_option maxRecDepth 20000

theorem Tryd.sizeOfW32 (w : World) : (sizeOf 22).run Tryd.prog w = .ok 1 w := by kernel_rfl
theorem Tryd.eq8In (a b : List UInt32) (ha : a.length = 8) (hb : b.length = 8) (w : World) :
    (Op.equalIn 10000 23 (.agg (wordsC a)) (.agg (wordsC b))).run Tryd.prog w = .ok (a == b) w :=
  words_eqIn w 9998 _ _ 8 Tryd.underlying23 Tryd.underlying22 Tryd.sizeOfW32 a b ha hb
theorem Tryd.eqGuard8 : Tryd.prog.eqGuardType Tryd.prog.depth 23 = false := by kernel_rfl
/-- The only one that may come up, guarded and wanted. -/
theorem walkS_onlyG2 {P : Program} {md : Region.Mode} {ops : Array Oper} {Q : Exit → Act → World → Prop} {S : World → Prop} {fin : Nat → Bool} {i : Nat} {o : Oper} {m : Nat} {listed : Array Bool} {a : Act} {w : World} (hr : Region.ready md ops listed = [i]) (ho : ops[i]? = some o) (hw : Region.wanted o (yielded ops a.tmps) = true)
    (h : ∀ K : Act → World → Prop, (∀ a' w', (fin i = true ∨ S w') → walkS P md ops Q S fin m (listed.setIfInBounds i true) a' w' → K a' w') → o.wp P a w K Q) : walkS P md ops Q S fin (m + 1) listed a w := by
  refine ⟨fun h0 => by simp [hr] at h0, fun j hj => ?_⟩
  rw [hr] at hj
  obtain rfl : j = i := by simpa using hj
  unfold wpOp
  rw [ho]
  simp only [hw, if_true]
  exact .inl (h _ (fun a' w' h1 h2 => ⟨h1, h2⟩))

set_option maxHeartbeats 4000000 in
theorem shaBlocks_walk (w : World) (hq : Tabs w) (st : List UInt32) (hs : st.length = 8) (block : List UInt8) (hl : block.length = 64) (n : Int) (hn : -9223372036854775808 ≤ n ∧ n ≤ 9223372036854775807) :
    Calls Tryd.prog 3 #[.agg (wordsC st), keyV block, .int .i64 n] w (RetV w (.bool true)) := by
  have Q1 := Lib.hid (fun x hx => Block_any x hx st block hs hl)
  have Q2 := Lib.hid (fun x => refBlock_any x st block hs hl)
  have l1 := blockW_length st block hs
  obtain ⟨hn1, hn2⟩ := hn
  generalize blockW st block = fin at *
  have HQ := Lib.hid hq
  have HS := Lib.hid hs
  have HL := Lib.hid hl
  have L1 := Lib.hid l1
  clear hq hs hl l1
  by_cases h1 : 100000 < n
  · have d2 : decide (100000 < n) = true := by simp; omega
    go_enter Tryd.func3, Tryd.ntmps3
    go_wp2_with (first
      | ((with_reducible refine wpList_box_row (o := ⟨some 3, _, _, _, _, _⟩) rfl 23 (.tmp 0) rfl (wordsC st) (by with_unfolding_all rfl) ?_); intro g1 w1 n1)
      | ((with_reducible refine wpList_box_row (o := ⟨some 4, _, _, _, _, _⟩) rfl 24 (.tmp 1) rfl (keyC block) (by with_unfolding_all rfl) ?_); intro g2 w2 n2))
    have B2 := below_size n1.below n2.below
    refine (awake_true _ (HQ.out.below B2)).mono ?_
    intro e w3 h
    obtain ⟨he, b3⟩ := h
    subst he
    go_wp2
    go_ret
    exact ⟨rfl, below_size B2 b3⟩
  · have d2 : decide (100000 < n) = false := by simp; omega
    have Q3 := Lib.hid (fun x => Pad_int x n (by omega))
    have Q4 := Lib.hid (fun x => refPad_int x n (by omega))
    generalize (if n < 0 then [] else padB n.toNat) = pd at *
    clear hn1 hn2
    go_enter Tryd.func3, Tryd.ntmps3
    go_wp2_with (first
      | ((with_reducible refine wpList_box_row (o := ⟨some 3, _, _, _, _, _⟩) rfl 23 (.tmp 0) rfl (wordsC st) (by with_unfolding_all rfl) ?_); intro g1 w1 n1)
      | ((with_reducible refine wpList_box_row (o := ⟨some 4, _, _, _, _, _⟩) rfl 24 (.tmp 1) rfl (keyC block) (by with_unfolding_all rfl) ?_); intro g2 w2 n2))
    have B2 := below_size n1.below n2.below
    refine (awake_true _ (HQ.out.below B2)).mono ?_
    intro e w3 h
    obtain ⟨he, b3⟩ := h
    subst he
    have B3 := Lib.hid (below_size B2 b3)
    have R1 := Lib.hid ((n1.row.kept n2.below).kept b3)
    have R2 := Lib.hid (n2.row.kept b3)
    clear B2 n1 n2 b3
    go_wp2_with (first
      | (with_reducible refine wpList_load_row (o := ⟨some 14, _, _, _, _, _⟩) rfl 23 (.tmp 3) rfl g1 (by with_unfolding_all rfl) 23 (wordsC st) (0, 0) (.array 8 22) (by with_unfolding_all exact R1.out) Tryd.underlying23 rfl (Tryd.size8l st HS.out) ?_)
      | (with_reducible refine wpList_load_row (o := ⟨some 15, _, _, _, _, _⟩) rfl 24 (.tmp 4) rfl g2 (by with_unfolding_all rfl) 24 (keyC block) (0, 0) (.array 64 5) (by with_unfolding_all exact R2.out) Tryd.underlying24 rfl (Tryd.size64b block HL.out) ?_))
    refine (Q1.out _ (HQ.out.below B3.out)).mono ?_
    intro e w4 h
    obtain ⟨he, b4⟩ := h
    subst he
    have B4 := Lib.hid (below_size B3.out b4)
    have R14 := Lib.hid (R1.out.kept b4)
    have R24 := Lib.hid (R2.out.kept b4)
    clear b4 R1 R2 B3
    go_wp2_with (first
      | ((with_reducible refine wpList_alloc_row (o := ⟨some 8, _, _, _, _, _⟩) rfl 23 rfl (wordsC (List.replicate 8 0)) Tryd.zero8 ?_); intro g5 w5 n5)
      | ((with_reducible refine wpList_store_row (o := ⟨none, _, _, _, _, _⟩) rfl 23 (.tmp 8) (.tmp 16) rfl g5 23 _ (wordsC fin) (by with_unfolding_all rfl) (by with_unfolding_all rfl) n5.row (by rw [wordsC_size, wordsC_size, L1.out, List.length_replicate]) (Tryd.size8l fin L1.out) (wordsC_one fin) ?_); intro w6 p6))
    have b6 := (laid_put n5 p6).1
    have B6 := Lib.hid (below_size B4.out b6)
    have R16 := Lib.hid (R14.out.kept b6)
    have R26 := Lib.hid (R24.out.kept b6)
    have R56 := Lib.hid p6.row
    clear b6 n5 p6 B4 R14 R24
    refine (Q3.out _).mono ?_
    intro e w7 h
    obtain ⟨u, he, hu, b7⟩ := h
    subst he
    have B7 := Lib.hid (below_size B6.out b7)
    have R1 := Lib.hid (R16.out.kept b7)
    have R2 := Lib.hid (R26.out.kept b7)
    have R5 := Lib.hid (R56.out.kept b7)
    have HU := Lib.hid hu
    clear b7 hu B6 R16 R26 R56
    have E1 : Hid (∀ W, (Op.equalIn 10000 23 (.agg (wordsC fin)) (.agg (wordsC fin))).run Tryd.prog W = .ok true W) := fun W => by
      have := Tryd.eq8In fin fin L1.out L1.out W
      rwa [beq_self_eq_true] at this
    go_wp2_with fail
    refine plain_region (S := fun W' => Below w7.heap.size w7 W') (fin := fun _ => false) (by kernel_rfl) ?_
    have hS : Below w7.heap.size w7 w7.drew := (Below.refl _ _).drew
    change walkS _ _ _ _ _ _ 15 _ _ _
    refine walkS_take (i := 0) (oi := ⟨some 19, _, _, _, _, _⟩) (v := .bool true) rfl (by kernel_rfl) (by kernel_rfl) (fun _ _ _ h => h) _ _ _ _ (by kernel_rfl) (by kernel_rfl) (Or.inl ⟨by rfl, fun w' hS' => (by clear hS hS'; go_simp)⟩) hS ?_
    simp only [Act.put, List.setIfInBounds_toArray, List.set_cons_zero, List.set_cons_succ]
    refine walkS_take (i := 1) (oi := ⟨some 20, _, _, _, _, _⟩) (v := .bool true) rfl (by kernel_rfl) (by kernel_rfl) (fun _ _ _ h => h) _ _ _ _ (by kernel_rfl) (by kernel_rfl) (Or.inl ⟨by rfl, fun w' hS' => (by clear hS hS'; go_simp)⟩) hS ?_
    simp only [Act.put, List.setIfInBounds_toArray, List.set_cons_zero, List.set_cons_succ]
    refine walkS_take (i := 2) (oi := ⟨some 21, _, _, _, _, _⟩) (v := .agg (wordsC fin)) rfl (by kernel_rfl) (by kernel_rfl) (fun _ _ _ h => h) _ _ _ _ (by kernel_rfl) (by kernel_rfl) (Or.inl ⟨by go_simp, fun w' hS' => run_load_row _ (.tmp 8) rfl g5 rfl _ (wordsC fin) (0, 0) (.array 8 22) (R5.out.kept hS') Tryd.underlying23 rfl (Tryd.size8l fin L1.out)⟩) hS ?_
    simp only [Act.put, List.setIfInBounds_toArray, List.set_cons_zero, List.set_cons_succ]
    refine walkS_take (i := 3) (oi := ⟨some 22, _, _, _, _, _⟩) (v := .agg (wordsC st)) rfl (by kernel_rfl) (by kernel_rfl) (fun _ _ _ h => h) _ _ _ _ (by kernel_rfl) (by kernel_rfl) (Or.inl ⟨by go_simp, fun w' hS' => run_load_row _ (.tmp 3) rfl g1 rfl _ (wordsC st) (0, 0) (.array 8 22) (R1.out.kept hS') Tryd.underlying23 rfl (Tryd.size8l st HS.out)⟩) hS ?_
    simp only [Act.put, List.setIfInBounds_toArray, List.set_cons_zero, List.set_cons_succ]
    refine walkS_take (i := 4) (oi := ⟨some 23, _, _, _, _, _⟩) (v := .agg (keyC block)) rfl (by kernel_rfl) (by kernel_rfl) (fun _ _ _ h => h) _ _ _ _ (by kernel_rfl) (by kernel_rfl) (Or.inl ⟨by go_simp, fun w' hS' => run_load_row _ (.tmp 4) rfl g2 rfl _ (keyC block) (0, 0) (.array 64 5) (R2.out.kept hS') Tryd.underlying24 rfl (Tryd.size64b block HL.out)⟩) hS ?_
    simp only [Act.put, List.setIfInBounds_toArray, List.set_cons_zero, List.set_cons_succ]
    refine walkS_onlyG2 (i := 5) (o := ⟨some 24, _, _, _, _, _⟩) (by kernel_rfl) rfl (by go_simp) fun K hK => ?_
    clear hS
    go_simp
    refine (Q2.out _).mono ?_
    intro e w8 h
    obtain ⟨he, b8⟩ := h
    subst he
    have hS : Below w7.heap.size w7 w8 := below_size (Below.refl _ _).drew b8
    refine hK _ _ (.inr hS) ?_
    clear hK K b8
    refine walkS_take (i := 6) (oi := ⟨some 25, _, _, _, _, _⟩) (v := .bool true) rfl (by kernel_rfl) (by kernel_rfl) (fun _ _ _ h => h) _ _ _ _ (by kernel_rfl) (by kernel_rfl) (Or.inl ⟨by go_simp, fun w' hS' => (by have he := E1.out; have hgd := Tryd.eqGuard8; clear hS hS'; go_simp)⟩) hS ?_
    simp only [Act.put, List.setIfInBounds_toArray, List.set_cons_zero, List.set_cons_succ]
    refine walkS_take (i := 7) (oi := ⟨some 26, _, _, _, _, _⟩) (v := .bool true) rfl (by kernel_rfl) (by kernel_rfl) (fun _ _ _ h => h) _ _ _ _ (by kernel_rfl) (by kernel_rfl) (Or.inl ⟨by rfl, fun w' hS' => (by clear hS hS'; go_simp)⟩) hS ?_
    simp only [Act.put, List.setIfInBounds_toArray, List.set_cons_zero, List.set_cons_succ]
    refine walkS_take (i := 8) (oi := ⟨some 27, _, _, _, _, _⟩) (v := .bool true) rfl (by kernel_rfl) (by kernel_rfl) (fun _ _ _ h => h) _ _ _ _ (by kernel_rfl) (by kernel_rfl) (Or.inl ⟨by rfl, fun w' hS' => (by clear hS hS'; go_simp)⟩) hS ?_
    simp only [Act.put, List.setIfInBounds_toArray, List.set_cons_zero, List.set_cons_succ]
    refine walkS_take (i := 9) (oi := ⟨some 28, _, _, _, _, _⟩) (v := u) rfl (by kernel_rfl) (by kernel_rfl) (fun _ _ _ h => h) _ _ _ _ (by kernel_rfl) (by kernel_rfl) (Or.inl ⟨by go_simp, fun w' hS' => (by clear hS hS'; go_simp)⟩) hS ?_
    simp only [Act.put, List.setIfInBounds_toArray, List.set_cons_zero, List.set_cons_succ]
    refine walkS_take (i := 10) (oi := ⟨some 29, _, _, _, _, _⟩) (v := .int .i64 n) rfl (by kernel_rfl) (by kernel_rfl) (fun _ _ _ h => h) _ _ _ _ (by kernel_rfl) (by kernel_rfl) (Or.inl ⟨by go_simp, fun w' hS' => (by clear hS hS'; go_simp)⟩) hS ?_
    simp only [Act.put, List.setIfInBounds_toArray, List.set_cons_zero, List.set_cons_succ]
    refine walkS_onlyG2 (i := 11) (o := ⟨some 30, _, _, _, _, _⟩) (by kernel_rfl) rfl (by go_simp) fun K hK => ?_
    have HS8 := Lib.hid hS
    clear hS
    go_simp
    refine (Q4.out _).mono ?_
    intro e w9 h
    obtain ⟨u2, he, hu2, b9⟩ := h
    subst he
    have hS : Below w7.heap.size w7 w9 := below_size HS8.out b9
    have HU2 := Lib.hid hu2
    refine hK _ _ (.inr hS) ?_
    clear hK K b9 HS8 hu2
    refine walkS_onlyG2 (i := 12) (o := ⟨some 31, _, _, _, _, _⟩) (by kernel_rfl) rfl (by go_simp) fun K hK => ?_
    have HS9 := Lib.hid hS
    clear hS
    go_simp
    refine (same_yes _ _ _ pd (HU.out.below HS9.out) HU2.out).mono ?_
    intro e w10 h
    obtain ⟨he, b10⟩ := h
    subst he
    have hS : Below w7.heap.size w7 w10 := below_size HS9.out b10
    refine hK _ _ (.inr hS) ?_
    clear hK K b10 HS9
    refine walkS_take (i := 13) (oi := ⟨some 32, _, _, _, _, _⟩) (v := .bool true) rfl (by kernel_rfl) (by kernel_rfl) (fun _ _ _ h => h) _ _ _ _ (by kernel_rfl) (by kernel_rfl) (Or.inl ⟨by rfl, fun w' hS' => (by clear hS hS'; go_simp)⟩) hS ?_
    simp only [Act.put, List.setIfInBounds_toArray, List.set_cons_zero, List.set_cons_succ]
    refine walkS_take (i := 14) (oi := ⟨some 6, _, _, _, _, _⟩) (v := .bool true) rfl (by kernel_rfl) (by kernel_rfl) (fun _ _ _ h => h) _ _ _ _ (by kernel_rfl) (by kernel_rfl) (Or.inl ⟨by rfl, fun w' hS' => (by clear hS hS'; go_simp)⟩) hS ?_
    simp only [Act.put, List.setIfInBounds_toArray, List.set_cons_zero, List.set_cons_succ]
    refine walkS_done (by kernel_rfl) ?_ _
    go_wp2
    go_ret
    exact ⟨rfl, below_size B7.out hS⟩
end Go.Proofs.YtngbcopilhibgaaDoor
