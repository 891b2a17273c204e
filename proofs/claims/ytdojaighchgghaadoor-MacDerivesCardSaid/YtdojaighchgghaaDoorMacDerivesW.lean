/-
  The walk of MacDerives. Conditions: what a row hands over.
-/
import Derived.Test.YtdojaighchgghaaDoorMacSumsW
import Derived.Test.YtdojaighchgghaaDoorMacM
import Derived.Test.YtdojaighchgghaaDoorMacL
namespace Go.Proofs.YtdojaighchgghaaDoor
open Go.RowKit
set_option linter.unusedVariables false
set_option maxRecDepth 20000

set_option maxHeartbeats 4000000 in
theorem macDerives_in (w : World) (hq : Tabs w) (key : List UInt8) (hk : key.length = 32) (lab : ByteArray) (hlab : lab.size ≤ 300) (va : Value) (a : List UInt8) (ha : Bs w va a) (vb : Value) (b : List UInt8) (hb : Bs w vb b) (vc : Value) (c : List UInt8) (hc : Bs w vc c)
    (hal : a.length ≤ 100) (hbl : b.length ≤ 100) (hcl : c.length ≤ 100) :
    Calls Tryd.prog 11 #[keyV key, .string lab, va, vb, vc] w (RetV w (.bool true)) := by
  have HQ := Lib.hid hq
  have HK := Lib.hid hk
  have HVA := Lib.hid ha
  have HVB := Lib.hid hb
  have HVC := Lib.hid hc
  obtain ⟨AA, AC, rfl, a1, a2, a3⟩ := ha
  obtain ⟨BA, BC, rfl, x1, x2, x3⟩ := hb
  obtain ⟨CA, CC, rfl, y1, y2, y3⟩ := hc
  unfold maxLen at a2 x2 y2
  clear hq hk a3 x3 y3
  have d1 : decide ((300 : Int) < (lab.size : Int)) = false := by simp; omega
  have d2 : decide ((100 : Int) < (a.length : Int)) = false := by simp; omega
  have d3 : decide ((100 : Int) < (b.length : Int)) = false := by simp; omega
  have d4 : decide ((100 : Int) < (c.length : Int)) = false := by simp; omega
  obtain ⟨dx, hdx⟩ : ∃ d, d = macB key (infoB lab.data.toList [a, b, c] ++ [1]) := ⟨_, rfl⟩
  obtain ⟨dy, hdy⟩ : ∃ d, d = macB key (infoB lab.data.toList [] ++ [1]) := ⟨_, rfl⟩
  have LX : Hid (dx.length = 32) := by show _ = _; rw [hdx, macB_length]
  have LY : Hid (dy.length = 32) := by show _ = _; rw [hdy, macB_length]
  have hmem : ∀ l ∈ [a, b, c], l.length ≤ 1000 := by
    intro l hl
    simp at hl
    rcases hl with rfl | rfl | rfl <;> omega
  have hil : ∀ ls : List (List UInt8), (∀ l ∈ ls, l.length ≤ 1000) → ls.length ≤ 3 → (infoB lab.data.toList ls).length ≤ 90000 := fun ls h1 h2 => by
    have h := partsL_flat (lab.data.toList.take 255) ls h1
    rw [infoB]
    have : (lab.data.toList.take 255).length ≤ 255 := by rw [List.length_take]; exact Nat.min_le_left _ _
    omega
  have HD1 : Hid (∀ x g m b', Run w x g m x → m ≤ 1000000 → Bss x (.slice (some ⟨b', 0, none⟩) 3 3) [a, b, c] → Calls Tryd.prog 36 #[.pointer (some ⟨g, 0, none⟩), .agg (keyC key), .string lab, .slice (some ⟨b', 0, none⟩) 3 3] x fun e w' => ∃ n', n' ≤ m + 3 ∧ e = .returned (.agg (keyC dx)) ∧ Run w x g n' w') := fun x g m b' hr hm hv => by
    rw [hdx]
    exact macDerive_any w x g m hr hm key HK.out lab (by omega) (some ⟨b', 0, none⟩) 3 [a, b, c] hv (by simp) hmem
  have HD2 : Hid (∀ x g m, Run w x g m x → m ≤ 1000000 → Calls Tryd.prog 36 #[.pointer (some ⟨g, 0, none⟩), .agg (keyC key), .string lab, .slice none 0 0] x fun e w' => ∃ n', n' ≤ m + 3 ∧ e = .returned (.agg (keyC dy)) ∧ Run w x g n' w') := fun x g m hr hm => by
    rw [hdy]
    exact macDerive_any w x g m hr hm key HK.out lab (by omega) none 0 [] (Bss.nil _) (by simp) (by simp)
  have HF1 : Hid (∀ x g m b', LogR w x g m x → m ≤ 1000000 → Bss x (.slice (some ⟨b', 0, none⟩) 3 3) [a, b, c] → Calls Tryd.prog 37 #[.pointer (some ⟨g, 0, none⟩), .agg (keyC key), .string lab, .slice (some ⟨b', 0, none⟩) 3 3] x fun e w' => ∃ n', n' ≤ m + 3 ∧ e = .returned (.agg (keyC dx)) ∧ LogR w x g n' w') := fun x g m b' hr hm hv =>
    refDerive_of w x g m lab (some ⟨b', 0, none⟩) 3 3 key (infoB lab.data.toList [a, b, c]) dx hdx hr hm HK.out (hil _ hmem (by simp)) fun y hy => refInfo_any y lab (by omega) (some ⟨b', 0, none⟩) 3 [a, b, c] (hv.keep hy) (by simp) hmem
  have HF2 : Hid (∀ x g m, LogR w x g m x → m ≤ 1000000 → Calls Tryd.prog 37 #[.pointer (some ⟨g, 0, none⟩), .agg (keyC key), .string lab, .slice none 0 0] x fun e w' => ∃ n', n' ≤ m + 3 ∧ e = .returned (.agg (keyC dy)) ∧ LogR w x g n' w') := fun x g m hr hm =>
    refDerive_of w x g m lab none 0 0 key (infoB lab.data.toList []) dy hdy hr hm HK.out (hil _ (by simp) (by simp)) fun y hy => refInfo_any y lab (by omega) none 0 [] (Bss.nil _) (by simp) (by simp)
  clear hdx hdy hmem hil
  go_enter Tryd.func11, Tryd.ntmps11
  go_wp2_with ((with_reducible refine wpList_box_row (o := ⟨some 5, _, _, _, _, _⟩) rfl 33 (.tmp 0) rfl (keyC key) (by with_unfolding_all rfl) ?_); intro g0 w0 n0)
  refine (macAwake_true _ (HQ.out.below n0.below)).mono ?_
  intro e w1 h
  obtain ⟨he, b1⟩ := h
  subst he
  have B1 := Lib.hid (below_size n0.below b1)
  have K1 := Lib.hid (n0.row.kept b1)
  clear b1 n0
  go_wp2_with fail
  refine (New_any _ false).mono ?_
  intro e w2 h
  obtain ⟨g, he, n2⟩ := h
  subst he
  have R2 := Lib.hid (Run.new HQ.out B1.out n2)
  have K2 := Lib.hid (K1.out.kept n2.below)
  have h0g : g0 ≠ g := by have := n2.spot; have := K1.out.lt; omega
  have hg2 : g < w2.heap.size := n2.row.lt
  clear n2 B1 K1
  go_wp2_with (first
    | ((with_reducible refine wpList_box_row (o := ⟨some 38, _, _, _, _, _⟩) rfl 41 (.tmp 37) rfl (logC 0) (by with_unfolding_all rfl) ?_); intro gl w3 n3)
    | (with_reducible refine wpList_load_row (o := ⟨some 40, _, _, _, _, _⟩) rfl 33 (.tmp 5) rfl g0 (by with_unfolding_all rfl) 33 (keyC key) (0, 0) (.array 32 5) (by with_unfolding_all exact (K2.out.kept n3.below)) Tryd.underlying33 rfl (Tryd.sizeKey key HK.out) ?_))
  have R3 := Lib.hid (R2.out.kept n3.below)
  have L3 := Lib.hid n3.row
  have K3 := Lib.hid (K2.out.kept n3.below)
  have hgl : gl ≠ g := by have := n3.spot; omega
  have h0l : g0 ≠ gl := by have := n3.spot; have := K2.out.lt; omega
  have hgw : w.heap.size ≤ gl := by have := n3.spot; have := R2.out.below.size; omega
  have s3 := n3.below.size
  clear n3 R2 K2
  refine (HD1.out _ g 0 _ (by exact (R3.out.kept (alloc_below _ _)).self) (by omega) (by exact Bss.three _ _ _ _ _ _ _ _ (HVA.out.below R3.out.below) (HVB.out.below R3.out.below) (HVC.out.below R3.out.below))).mono ?_
  intro e w4 h
  obtain ⟨na, hna, he, r4⟩ := h
  subst he
  have R4 := Lib.hid r4.self
  have L4 := Lib.hid (r4.other (L3.out.kept (alloc_below _ _)) hgl)
  have K4 := Lib.hid (r4.other (K3.out.kept (alloc_below _ _)) h0g)
  have s4 := Nat.le_trans s3 (Nat.le_trans (alloc_below w3 (.cells #[.slice AA a.length AC, .slice BA b.length BC, .slice CA c.length CC] 27)).size r4.size)
  clear r4 R3 L3 K3
  go_wp2_with (first
    | ((with_reducible refine wpList_alloc_row (o := ⟨some 14, _, _, _, _, _⟩) rfl 33 rfl (keyC zeroKey) Tryd.zeroK ?_); intro g14 w5 n5)
    | ((with_reducible refine wpList_store_row (o := ⟨none, _, _, _, _, _⟩) rfl 33 (.tmp 14) (.tmp 46) rfl g14 33 _ (keyC dx) (by with_unfolding_all rfl) (by with_unfolding_all rfl) n5.row (keyC_same zeroKey_length LX.out) (Tryd.sizeKey dx LX.out) (keyC_one dx) ?_); intro w6 p6; have b6 := (laid_put n5 p6).1; have R6 := Lib.hid (R4.out.kept b6); have L6 := Lib.hid (L4.out.kept b6); have K6 := Lib.hid (K4.out.kept b6); have X6 := Lib.hid p6.row; have hxg : g14 ≠ g := (by have := n5.spot; omega); have hxl : g14 ≠ gl := (by have := n5.spot; have := L4.out.lt; omega); have s6 := b6.size; clear n5 p6 b6 R4 L4 K4)
    | (with_reducible refine wpList_load_row (o := ⟨some 48, _, _, _, _, _⟩) rfl 33 (.tmp 5) rfl g0 (by with_unfolding_all rfl) 33 (keyC key) (0, 0) (.array 32 5) (by with_unfolding_all exact K6.out) Tryd.underlying33 rfl (Tryd.sizeKey key HK.out) ?_))
  refine (HD2.out _ g na (by exact R6.out.self) (by omega)).mono ?_
  intro e w7 h
  obtain ⟨nb, hnb, he, r7⟩ := h
  subst he
  have R7 := Lib.hid r7.self
  have L7 := Lib.hid (r7.other L6.out hgl)
  have K7 := Lib.hid (r7.other K6.out h0g)
  have X7 := Lib.hid (r7.other X6.out hxg)
  have s7 := r7.size
  clear r7 R6 L6 X6 K6
  go_wp2_with (first
    | ((with_reducible refine wpList_alloc_row (o := ⟨some 15, _, _, _, _, _⟩) rfl 33 rfl (keyC zeroKey) Tryd.zeroK ?_); intro g15 w8 n8)
    | ((with_reducible refine wpList_store_row (o := ⟨none, _, _, _, _, _⟩) rfl 33 (.tmp 15) (.tmp 50) rfl g15 33 _ (keyC dy) (by with_unfolding_all rfl) (by with_unfolding_all rfl) n8.row (keyC_same zeroKey_length LY.out) (Tryd.sizeKey dy LY.out) (keyC_one dy) ?_); intro w9 p9; have b9 := (laid_put n8 p9).1; have B9 := Lib.hid (below_size R7.out.below b9); have L9 := Lib.hid (L7.out.kept b9); have K9 := Lib.hid (K7.out.kept b9); have X9 := Lib.hid (X7.out.kept b9); have Y9 := Lib.hid p9.row; have hyl : g15 ≠ gl := (by have := n8.spot; have := L7.out.lt; omega); clear n8 p9 b9 R7 L7 X7 K7))
  have G9 := Lib.hid (LogR.new B9.out L9.out hgw)
  have EX : Hid (∀ W, (Op.equalIn 10000 33 (.agg (keyC dx)) (.agg (keyC dx))).run Tryd.prog W = .ok true W) := fun W => by
    have := Tryd.eqKeyIn2 dx dx LX.out LX.out W
    rwa [beq_self_eq_true] at this
  have EY : Hid (∀ W, (Op.equalIn 10000 33 (.agg (keyC dy)) (.agg (keyC dy))).run Tryd.prog W = .ok true W) := fun W => by
    have := Tryd.eqKeyIn2 dy dy LY.out LY.out W
    rwa [beq_self_eq_true] at this
  clear HD1 HD2 L9
  refine plain_region (S := fun W' => RowAt W' g14 33 (keyC dx) ∧ RowAt W' g15 33 (keyC dy) ∧ RowAt W' g0 33 (keyC key)) (fin := fun _ => false) (by kernel_rfl) ?_
  have hS : RowAt w9.drew g14 33 (keyC dx) ∧ RowAt w9.drew g15 33 (keyC dy) ∧ RowAt w9.drew g0 33 (keyC key) := ⟨X9.out, Y9.out, K9.out⟩
  change walkS _ _ _ _ _ _ 22 _ _ _
  refine walkS_take (i := 0) (oi := ⟨some 51, _, _, _, _, _⟩) (v := .bool true) rfl (by kernel_rfl) (by kernel_rfl) (fun _ _ _ h => h) _ _ _ _ (by kernel_rfl) (by kernel_rfl) (Or.inl ⟨by rfl, fun w' hS' => (by clear hS hS'; go_simp)⟩) hS ?_
  simp only [Act.put, List.setIfInBounds_toArray, List.set_cons_zero, List.set_cons_succ]
  refine walkS_take (i := 1) (oi := ⟨some 52, _, _, _, _, _⟩) (v := .bool true) rfl (by kernel_rfl) (by kernel_rfl) (fun _ _ _ h => h) _ _ _ _ (by kernel_rfl) (by kernel_rfl) (Or.inl ⟨by rfl, fun w' hS' => (by clear hS hS'; go_simp)⟩) hS ?_
  simp only [Act.put, List.setIfInBounds_toArray, List.set_cons_zero, List.set_cons_succ]
  refine walkS_take (i := 2) (oi := ⟨some 53, _, _, _, _, _⟩) (v := .agg (keyC dx)) rfl (by kernel_rfl) (by kernel_rfl) (fun _ _ _ h => h) _ _ _ _ (by kernel_rfl) (by kernel_rfl) (Or.inl ⟨by go_simp, fun w' hS' => run_load_row _ (.tmp 14) rfl g14 rfl _ (keyC dx) (0, 0) (.array 32 5) hS'.1 Tryd.underlying33 rfl (Tryd.sizeKey dx LX.out)⟩) hS ?_
  simp only [Act.put, List.setIfInBounds_toArray, List.set_cons_zero, List.set_cons_succ]
  refine walkS_take (i := 3) (oi := ⟨some 54, _, _, _, _, _⟩) (v := .pointer (some ⟨gl, 0, none⟩)) rfl (by kernel_rfl) (by kernel_rfl) (fun _ _ _ h => h) _ _ _ _ (by kernel_rfl) (by kernel_rfl) (Or.inl ⟨by go_simp, fun w' hS' => (by clear hS hS'; go_simp)⟩) hS ?_
  simp only [Act.put, List.setIfInBounds_toArray, List.set_cons_zero, List.set_cons_succ]
  refine walkS_take (i := 4) (oi := ⟨some 55, _, _, _, _, _⟩) (v := .agg (keyC key)) rfl (by kernel_rfl) (by kernel_rfl) (fun _ _ _ h => h) _ _ _ _ (by kernel_rfl) (by kernel_rfl) (Or.inl ⟨by go_simp, fun w' hS' => run_load_row _ (.tmp 5) rfl g0 rfl _ (keyC key) (0, 0) (.array 32 5) hS'.2.2 Tryd.underlying33 rfl (Tryd.sizeKey key HK.out)⟩) hS ?_
  simp only [Act.put, List.setIfInBounds_toArray, List.set_cons_zero, List.set_cons_succ]
  refine walkS_take (i := 5) (oi := ⟨some 56, _, _, _, _, _⟩) (v := .string lab) rfl (by kernel_rfl) (by kernel_rfl) (fun _ _ _ h => h) _ _ _ _ (by kernel_rfl) (by kernel_rfl) (Or.inl ⟨by go_simp, fun w' hS' => (by clear hS hS'; go_simp)⟩) hS ?_
  simp only [Act.put, List.setIfInBounds_toArray, List.set_cons_zero, List.set_cons_succ]
  refine walkS_take (i := 6) (oi := ⟨some 57, _, _, _, _, _⟩) (v := .slice AA a.length AC) rfl (by kernel_rfl) (by kernel_rfl) (fun _ _ _ h => h) _ _ _ _ (by kernel_rfl) (by kernel_rfl) (Or.inl ⟨by go_simp, fun w' hS' => (by clear hS hS'; go_simp)⟩) hS ?_
  simp only [Act.put, List.setIfInBounds_toArray, List.set_cons_zero, List.set_cons_succ]
  refine walkS_take (i := 7) (oi := ⟨some 58, _, _, _, _, _⟩) (v := .slice BA b.length BC) rfl (by kernel_rfl) (by kernel_rfl) (fun _ _ _ h => h) _ _ _ _ (by kernel_rfl) (by kernel_rfl) (Or.inl ⟨by go_simp, fun w' hS' => (by clear hS hS'; go_simp)⟩) hS ?_
  simp only [Act.put, List.setIfInBounds_toArray, List.set_cons_zero, List.set_cons_succ]
  refine walkS_take (i := 8) (oi := ⟨some 59, _, _, _, _, _⟩) (v := .slice CA c.length CC) rfl (by kernel_rfl) (by kernel_rfl) (fun _ _ _ h => h) _ _ _ _ (by kernel_rfl) (by kernel_rfl) (Or.inl ⟨by go_simp, fun w' hS' => (by clear hS hS'; go_simp)⟩) hS ?_
  simp only [Act.put, List.setIfInBounds_toArray, List.set_cons_zero, List.set_cons_succ]
  refine walkS_onlyG3 (i := 9) (o := ⟨some 60, _, _, _, _, _⟩) (by kernel_rfl) rfl (by go_simp) fun K hK => ?_
  have HS := Lib.hid hS
  clear hS
  go_simp
  have B10 := Lib.hid (((Below.refl w9.heap.size w9).drew).alloc (Nat.le_refl _) (.cells #[.slice AA a.length AC, .slice BA b.length BC, .slice CA c.length CC] 27))
  have V10 := Lib.hid (Bss.three w9.drew 27 _ _ _ _ _ _ (HVA.out.below B9.out).drew (HVB.out.below B9.out).drew (HVC.out.below B9.out).drew)
  have hS := And.intro (X9.out.kept B10.out) (And.intro (Y9.out.kept B10.out) (K9.out.kept B10.out))
  have G12 := Lib.hid (G9.out.kept B10.out)
  refine hK _ _ (.inr hS) ?_
  clear hK K HS B10
  refine walkS_onlyG3 (i := 10) (o := ⟨some 61, _, _, _, _, _⟩) (by kernel_rfl) rfl (by go_simp) fun K hK => ?_
  have HS := Lib.hid hS
  clear hS
  go_simp
  refine (HF1.out _ gl 0 _ (by exact G12.out.self) (by omega) (by exact V10.out)).mono ?_
  intro e w13 h
  obtain ⟨nc, hnc, he, r13⟩ := h
  subst he
  have G13 := Lib.hid r13.self
  have hS := And.intro (r13.other HS.out.1 hxl) (And.intro (r13.other HS.out.2.1 hyl) (r13.other HS.out.2.2 h0l))
  refine hK _ _ (.inr hS) ?_
  clear hK K r13 HS G12 V10
  refine walkS_take (i := 11) (oi := ⟨some 62, _, _, _, _, _⟩) (v := .bool true) rfl (by kernel_rfl) (by kernel_rfl) (fun _ _ _ h => h) _ _ _ _ (by kernel_rfl) (by kernel_rfl) (Or.inl ⟨by go_simp, fun w' hS' => (by have he := EX.out; have hgd := Tryd.eqGuardKey2; clear hS hS'; go_simp)⟩) hS ?_
  simp only [Act.put, List.setIfInBounds_toArray, List.set_cons_zero, List.set_cons_succ]
  refine walkS_take (i := 12) (oi := ⟨some 63, _, _, _, _, _⟩) (v := .bool true) rfl (by kernel_rfl) (by kernel_rfl) (fun _ _ _ h => h) _ _ _ _ (by kernel_rfl) (by kernel_rfl) (Or.inl ⟨by rfl, fun w' hS' => (by clear hS hS'; go_simp)⟩) hS ?_
  simp only [Act.put, List.setIfInBounds_toArray, List.set_cons_zero, List.set_cons_succ]
  refine walkS_take (i := 13) (oi := ⟨some 64, _, _, _, _, _⟩) (v := .bool true) rfl (by kernel_rfl) (by kernel_rfl) (fun _ _ _ h => h) _ _ _ _ (by kernel_rfl) (by kernel_rfl) (Or.inl ⟨by rfl, fun w' hS' => (by clear hS hS'; go_simp)⟩) hS ?_
  simp only [Act.put, List.setIfInBounds_toArray, List.set_cons_zero, List.set_cons_succ]
  refine walkS_take (i := 14) (oi := ⟨some 65, _, _, _, _, _⟩) (v := .agg (keyC dy)) rfl (by kernel_rfl) (by kernel_rfl) (fun _ _ _ h => h) _ _ _ _ (by kernel_rfl) (by kernel_rfl) (Or.inl ⟨by go_simp, fun w' hS' => run_load_row _ (.tmp 15) rfl g15 rfl _ (keyC dy) (0, 0) (.array 32 5) hS'.2.1 Tryd.underlying33 rfl (Tryd.sizeKey dy LY.out)⟩) hS ?_
  simp only [Act.put, List.setIfInBounds_toArray, List.set_cons_zero, List.set_cons_succ]
  refine walkS_take (i := 15) (oi := ⟨some 66, _, _, _, _, _⟩) (v := .pointer (some ⟨gl, 0, none⟩)) rfl (by kernel_rfl) (by kernel_rfl) (fun _ _ _ h => h) _ _ _ _ (by kernel_rfl) (by kernel_rfl) (Or.inl ⟨by go_simp, fun w' hS' => (by clear hS hS'; go_simp)⟩) hS ?_
  simp only [Act.put, List.setIfInBounds_toArray, List.set_cons_zero, List.set_cons_succ]
  refine walkS_take (i := 16) (oi := ⟨some 67, _, _, _, _, _⟩) (v := .agg (keyC key)) rfl (by kernel_rfl) (by kernel_rfl) (fun _ _ _ h => h) _ _ _ _ (by kernel_rfl) (by kernel_rfl) (Or.inl ⟨by go_simp, fun w' hS' => run_load_row _ (.tmp 5) rfl g0 rfl _ (keyC key) (0, 0) (.array 32 5) hS'.2.2 Tryd.underlying33 rfl (Tryd.sizeKey key HK.out)⟩) hS ?_
  simp only [Act.put, List.setIfInBounds_toArray, List.set_cons_zero, List.set_cons_succ]
  refine walkS_take (i := 17) (oi := ⟨some 68, _, _, _, _, _⟩) (v := .string lab) rfl (by kernel_rfl) (by kernel_rfl) (fun _ _ _ h => h) _ _ _ _ (by kernel_rfl) (by kernel_rfl) (Or.inl ⟨by go_simp, fun w' hS' => (by clear hS hS'; go_simp)⟩) hS ?_
  simp only [Act.put, List.setIfInBounds_toArray, List.set_cons_zero, List.set_cons_succ]
  refine walkS_onlyG3 (i := 18) (o := ⟨some 69, _, _, _, _, _⟩) (by kernel_rfl) rfl (by go_simp) fun K hK => ?_
  have HS := Lib.hid hS
  clear hS
  go_simp
  refine (HF2.out w13 gl nc G13.out (by omega)).mono ?_
  intro e w14 h
  obtain ⟨nd, hnd, he, r14⟩ := h
  subst he
  have B14 := Lib.hid r14.below
  have hS := And.intro (r14.other HS.out.1 hxl) (And.intro (r14.other HS.out.2.1 hyl) (r14.other HS.out.2.2 h0l))
  refine hK _ _ (.inr hS) ?_
  clear hK K r14 HS G13
  refine walkS_take (i := 19) (oi := ⟨some 70, _, _, _, _, _⟩) (v := .bool true) rfl (by kernel_rfl) (by kernel_rfl) (fun _ _ _ h => h) _ _ _ _ (by kernel_rfl) (by kernel_rfl) (Or.inl ⟨by go_simp, fun w' hS' => (by have he := EY.out; have hgd := Tryd.eqGuardKey2; clear hS hS'; go_simp)⟩) hS ?_
  simp only [Act.put, List.setIfInBounds_toArray, List.set_cons_zero, List.set_cons_succ]
  refine walkS_take (i := 20) (oi := ⟨some 71, _, _, _, _, _⟩) (v := .bool true) rfl (by kernel_rfl) (by kernel_rfl) (fun _ _ _ h => h) _ _ _ _ (by kernel_rfl) (by kernel_rfl) (Or.inl ⟨by rfl, fun w' hS' => (by clear hS hS'; go_simp)⟩) hS ?_
  simp only [Act.put, List.setIfInBounds_toArray, List.set_cons_zero, List.set_cons_succ]
  refine walkS_take (i := 21) (oi := ⟨some 10, _, _, _, _, _⟩) (v := .bool true) rfl (by kernel_rfl) (by kernel_rfl) (fun _ _ _ h => h) _ _ _ _ (by kernel_rfl) (by kernel_rfl) (Or.inl ⟨by rfl, fun w' hS' => (by clear hS hS'; go_simp)⟩) hS ?_
  simp only [Act.put, List.setIfInBounds_toArray, List.set_cons_zero, List.set_cons_succ]
  refine walkS_done (by kernel_rfl) ?_ _
  go_wp2
  go_ret
  exact ⟨rfl, B14.out⟩

set_option maxHeartbeats 2000000 in
theorem macDerives_out (w : World) (hq : Tabs w) (key : List UInt8) (lab : ByteArray) (va : Value) (a : List UInt8) (ha : Bs w va a) (vb : Value) (b : List UInt8) (hb : Bs w vb b) (vc : Value) (c : List UInt8) (hc : Bs w vc c)
    (h : 300 < lab.size ∨ 100 < a.length ∨ 100 < b.length ∨ 100 < c.length) (hlab : lab.size ≤ maxLen) :
    Calls Tryd.prog 11 #[keyV key, .string lab, va, vb, vc] w (RetV w (.bool true)) := by
  have HQ := Lib.hid hq
  obtain ⟨AA, AC, rfl, a1, a2, a3⟩ := ha
  obtain ⟨BA, BC, rfl, x1, x2, x3⟩ := hb
  obtain ⟨CA, CC, rfl, y1, y2, y3⟩ := hc
  unfold maxLen at a2 x2 y2 hlab
  clear hq a3 x3 y3
  by_cases c1 : 300 < lab.size
  · have d1 : decide ((300 : Int) < (lab.size : Int)) = true := by simp; omega
    go_enter Tryd.func11, Tryd.ntmps11
    go_wp2_with ((with_reducible refine wpList_box_row (o := ⟨some 5, _, _, _, _, _⟩) rfl 33 (.tmp 0) rfl (keyC key) (by with_unfolding_all rfl) ?_); intro g0 w0 n0)
    refine (macAwake_true _ (HQ.out.below n0.below)).mono ?_
    intro e w1 h
    obtain ⟨he, b1⟩ := h
    subst he
    go_wp2
    go_ret
    exact ⟨rfl, below_size n0.below b1⟩
  have d1 : decide ((300 : Int) < (lab.size : Int)) = false := by simp; omega
  by_cases c2 : 100 < a.length
  · have d2 : decide ((100 : Int) < (a.length : Int)) = true := by simp; omega
    go_enter Tryd.func11, Tryd.ntmps11
    go_wp2_with ((with_reducible refine wpList_box_row (o := ⟨some 5, _, _, _, _, _⟩) rfl 33 (.tmp 0) rfl (keyC key) (by with_unfolding_all rfl) ?_); intro g0 w0 n0)
    refine (macAwake_true _ (HQ.out.below n0.below)).mono ?_
    intro e w1 h
    obtain ⟨he, b1⟩ := h
    subst he
    go_wp2
    go_ret
    exact ⟨rfl, below_size n0.below b1⟩
  have d2 : decide ((100 : Int) < (a.length : Int)) = false := by simp; omega
  by_cases c3 : 100 < b.length
  · have d3 : decide ((100 : Int) < (b.length : Int)) = true := by simp; omega
    go_enter Tryd.func11, Tryd.ntmps11
    go_wp2_with ((with_reducible refine wpList_box_row (o := ⟨some 5, _, _, _, _, _⟩) rfl 33 (.tmp 0) rfl (keyC key) (by with_unfolding_all rfl) ?_); intro g0 w0 n0)
    refine (macAwake_true _ (HQ.out.below n0.below)).mono ?_
    intro e w1 h
    obtain ⟨he, b1⟩ := h
    subst he
    go_wp2
    go_ret
    exact ⟨rfl, below_size n0.below b1⟩
  have d3 : decide ((100 : Int) < (b.length : Int)) = false := by simp; omega
  by_cases c4 : 100 < c.length
  · have d4 : decide ((100 : Int) < (c.length : Int)) = true := by simp; omega
    go_enter Tryd.func11, Tryd.ntmps11
    go_wp2_with ((with_reducible refine wpList_box_row (o := ⟨some 5, _, _, _, _, _⟩) rfl 33 (.tmp 0) rfl (keyC key) (by with_unfolding_all rfl) ?_); intro g0 w0 n0)
    refine (macAwake_true _ (HQ.out.below n0.below)).mono ?_
    intro e w1 h
    obtain ⟨he, b1⟩ := h
    subst he
    go_wp2
    go_ret
    exact ⟨rfl, below_size n0.below b1⟩
  have d4 : decide ((100 : Int) < (c.length : Int)) = false := by simp; omega
  omega

set_option maxHeartbeats 2000000 in
theorem macDerives_walk (w : World) (hq : Tabs w) (key : List UInt8) (hk : key.length = 32) (lab : ByteArray) (hlab : lab.size ≤ maxLen) (va : Value) (a : List UInt8) (ha : Bs w va a) (vb : Value) (b : List UInt8) (hb : Bs w vb b) (vc : Value) (c : List UInt8) (hc : Bs w vc c) :
    Calls Tryd.prog 11 #[keyV key, .string lab, va, vb, vc] w (RetV w (.bool true)) := by
  by_cases c1 : lab.size ≤ 300
  · by_cases c2 : a.length ≤ 100
    · by_cases c3 : b.length ≤ 100
      · by_cases c4 : c.length ≤ 100
        · exact macDerives_in w hq key hk lab c1 va a ha vb b hb vc c hc c2 c3 c4
        · exact macDerives_out w hq key lab va a ha vb b hb vc c hc (by omega) hlab
      · exact macDerives_out w hq key lab va a ha vb b hb vc c hc (by omega) hlab
    · exact macDerives_out w hq key lab va a ha vb b hb vc c hc (by omega) hlab
  · exact macDerives_out w hq key lab va a ha vb b hb vc c hc (by omega) hlab
end Go.Proofs.YtdojaighchgghaaDoor
