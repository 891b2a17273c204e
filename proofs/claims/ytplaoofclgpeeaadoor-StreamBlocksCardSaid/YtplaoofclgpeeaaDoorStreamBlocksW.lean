/-
  The walk of StreamBlocks. Conditions: what a row hands over.
-/
import Derived.Test.YtplaoofclgpeeaaDoorStreamT
import Derived.Test.YtplaoofclgpeeaaDoorStreamTurnsV
import Derived.Test.YtplaoofclgpeeaaDoorHeld
import Derived.Test.YtplaoofclgpeeaaDoorEq64
namespace Go.Proofs.YtplaoofclgpeeaaDoor
open Go.RowKit
set_option linter.unusedVariables false
set_option maxRecDepth 20000

/-- The only one that may come up, guarded and wanted. -/
theorem walkS_onlyG {P : Program} {md : Region.Mode} {ops : Array Oper} {Q : Exit → Act → World → Prop} {S : World → Prop} {fin : Nat → Bool} {i : Nat} {o : Oper} {m : Nat} {listed : Array Bool} {a : Act} {w : World} (hr : Region.ready md ops listed = [i]) (ho : ops[i]? = some o) (hw : Region.wanted o (yielded ops a.tmps) = true)
    (h : ∀ K : Act → World → Prop, (∀ a' w', (fin i = true ∨ S w') → walkS P md ops Q S fin m (listed.setIfInBounds i true) a' w' → K a' w') → o.wp P a w K Q) : walkS P md ops Q S fin (m + 1) listed a w := by
  refine ⟨fun h0 => by simp [hr] at h0, fun j hj => ?_⟩
  rw [hr] at hj
  obtain rfl : j = i := by simpa using hj
  unfold wpOp
  rw [ho]
  simp only [hw, if_true]
  exact .inl (h _ (fun a' w' h1 h2 => ⟨h1, h2⟩))

set_option maxHeartbeats 4000000 in
theorem streamBlocks_walk (w : World) (hq : Quar w) (ws : List UInt32) (hw : ws.length = 16) (a : Int) (ha : -9223372036854775808 ≤ a ∧ a ≤ 9223372036854775807) (b : Int) (hb : -9223372036854775808 ≤ b ∧ b ≤ 9223372036854775807) (c : Int) (hc : -9223372036854775808 ≤ c ∧ c ≤ 9223372036854775807) (d : Int) (hd : -9223372036854775808 ≤ d ∧ d ≤ 9223372036854775807) (key : List UInt8) (hk : key.length = 32) (ctr : UInt32) (nonce : List UInt8) (hn : nonce.length = 12) :
    Calls Tryd.prog 3 #[.agg (wordsC ws), .int .i64 a, .int .i64 b, .int .i64 c, .int .i64 d, keyV key, .int .u32 (ctr.toNat : Int), keyV nonce] w (RetV w (.bool true)) := by
  have q1 := fun x => Quarter_any x ws hw a b c d
  have q2 := fun x => refQuarter_any x ws hw a b c d
  have l1 := (quarterW_length ws (low4 a) (low4 b) (low4 c) (low4 d)).trans hw
  have q3 := fun x hx => Block_any x hx key nonce ctr hk hn
  have q4 := fun x => refBlock_any x key nonce ctr hk hn
  have l2 := blockS_length key ctr nonce
  generalize quarterW ws (low4 a) (low4 b) (low4 c) (low4 d) = x1 at *
  generalize blockS key ctr nonce = bl at *
  have HW := Lib.hid hw
  have L1 := Lib.hid l1
  have L2 := Lib.hid l2
  have HK := Lib.hid hk
  have HN := Lib.hid hn
  have HQ := Lib.hid hq
  have Q1 := Lib.hid q1
  have Q2 := Lib.hid q2
  have Q3 := Lib.hid q3
  have Q4 : Hid (∀ x, Calls Tryd.prog 13 #[.agg (keyC key), .int .u32 (ctr.toNat : Int), .agg (keyC nonce)] x (RetV x (.agg (keyC bl)))) := q4
  clear q1 q2 q3 q4 l1 l2 hw hq hk hn ha hb hc hd
  go_enter Tryd.func3, Tryd.ntmps3
  go_wp2_with (first
    | ((with_reducible refine wpList_box_row (o := ⟨some 8, _, _, _, _, _⟩) rfl 24 (.tmp 0) rfl (wordsC ws) (by with_unfolding_all rfl) ?_); intro g1 w1 n1)
    | ((with_reducible refine wpList_box_row (o := ⟨some 13, _, _, _, _, _⟩) rfl 26 (.tmp 5) rfl (keyC key) (by with_unfolding_all rfl) ?_); intro g2 w2 n2)
    | ((with_reducible refine wpList_box_row (o := ⟨some 15, _, _, _, _, _⟩) rfl 27 (.tmp 7) rfl (keyC nonce) (by with_unfolding_all rfl) ?_); intro g3 w3 n3))
  have B3 := below_size (below_size n1.below n2.below) n3.below
  refine (awake_true _ (HQ.out.below B3)).mono ?_
  rintro e w4 ⟨rfl, b4⟩
  have B4 := Lib.hid (below_size B3 b4)
  have R1 := Lib.hid (((n1.row.kept n2.below).kept n3.below).kept b4)
  have R2 := Lib.hid ((n2.row.kept n3.below).kept b4)
  have R3 := Lib.hid (n3.row.kept b4)
  clear B3 n1 n2 n3 b4
  go_wp2_with (with_reducible refine wpList_load_row (o := ⟨some 22, _, _, _, _, _⟩) rfl 24 (.tmp 8) rfl g1 (by with_unfolding_all rfl) 24 (wordsC ws) (0, 0) (.array 16 22) (by with_unfolding_all exact R1.out) Tryd.underlying24 rfl (Tryd.sizeWs ws HW.out) ?_)
  refine (Q1.out _).mono ?_
  rintro e w5 ⟨rfl, b5⟩
  have R15 := Lib.hid (R1.out.kept b5)
  have R25 := Lib.hid (R2.out.kept b5)
  have R35 := Lib.hid (R3.out.kept b5)
  have B5 := Lib.hid (below_size B4.out b5)
  clear b5 R1 R2 R3 B4
  go_wp2_with (first
    | ((with_reducible refine wpList_alloc_row (o := ⟨some 18, _, _, _, _, _⟩) rfl 24 rfl (wordsC zeroW) Tryd.zeroWs ?_); intro g6 w6 n6)
    | ((with_reducible refine wpList_store_row (o := ⟨none, _, _, _, _, _⟩) rfl 24 (.tmp 18) (.tmp 27) rfl g6 24 _ (wordsC x1) (by with_unfolding_all rfl) (by with_unfolding_all rfl) n6.row (wordsC_same zeroW_length L1.out) (Tryd.sizeWs x1 L1.out) (wordsC_one x1) ?_); intro w7 p7)
    | (with_reducible refine wpList_load_row (o := ⟨some 28, _, _, _, _, _⟩) rfl 24 (.tmp 8) rfl g1 (by with_unfolding_all rfl) 24 (wordsC ws) (0, 0) (.array 16 22) (by with_unfolding_all exact (R15.out.kept (laid_put n6 p7).1)) Tryd.underlying24 rfl (Tryd.sizeWs ws HW.out) ?_))
  have b7 := (laid_put n6 p7).1
  have R27 := R25.out.kept b7
  have R37 := R35.out.kept b7
  have R67 := p7.row
  have B7 := below_size B5.out b7
  clear b7 n6 p7 R15 R25 R35 B5
  refine (Q2.out _).mono ?_
  rintro e w8 ⟨rfl, b8⟩
  have R28 := Lib.hid (R27.kept b8)
  have R38 := Lib.hid (R37.kept b8)
  have R68 := Lib.hid (R67.kept b8)
  have B8 := Lib.hid (below_size B7 b8)
  clear b8 R27 R37 R67 B7
  go_wp2_with (first
    | ((with_reducible refine wpList_alloc_row (o := ⟨some 19, _, _, _, _, _⟩) rfl 23 rfl (wordsC zeroW) Tryd.zeroW16 ?_); intro g9 w9 n9)
    | ((with_reducible refine wpList_store_row (o := ⟨none, _, _, _, _, _⟩) rfl 23 (.tmp 19) (.tmp 33) rfl g9 23 _ (wordsC x1) (by with_unfolding_all rfl) (by with_unfolding_all rfl) n9.row (wordsC_same zeroW_length L1.out) (Tryd.sizeW16 x1 L1.out) (wordsC_one x1) ?_); intro w10 p10)
    | (with_reducible refine wpList_load_row (o := ⟨some 34, _, _, _, _, _⟩) rfl 26 (.tmp 13) rfl g2 (by with_unfolding_all rfl) 26 (keyC key) (0, 0) (.array 32 5) (by with_unfolding_all exact (R28.out.kept (laid_put n9 p10).1)) Tryd.underlying26 rfl (Tryd.sizeKey key HK.out) ?_)
    | (with_reducible refine wpList_load_row (o := ⟨some 36, _, _, _, _, _⟩) rfl 27 (.tmp 15) rfl g3 (by with_unfolding_all rfl) 27 (keyC nonce) (0, 0) (.array 12 5) (by with_unfolding_all exact (R38.out.kept (laid_put n9 p10).1)) Tryd.underlying27 rfl (Tryd.sizeN nonce HN.out) ?_))
  have b10 := (laid_put n9 p10).1
  have R2a := R28.out.kept b10
  have R3a := R38.out.kept b10
  have R6a := R68.out.kept b10
  have R9a := p10.row
  have Ba := below_size B8.out b10
  clear b10 n9 p10 R28 R38 R68 B8
  refine (Q3.out _ (HQ.out.below Ba)).mono ?_
  rintro e w11 ⟨rfl, b11⟩
  have R2b := Lib.hid (R2a.kept b11)
  have R3b := Lib.hid (R3a.kept b11)
  have R6b := Lib.hid (R6a.kept b11)
  have R9b := Lib.hid (R9a.kept b11)
  have Bb := Lib.hid (below_size Ba b11)
  clear b11 R2a R3a R6a R9a Ba
  go_wp2_with (first
    | ((with_reducible refine wpList_alloc_row (o := ⟨some 20, _, _, _, _, _⟩) rfl 31 rfl (keyC zero64B) Tryd.zero64B ?_); intro g12 w12 n12)
    | ((with_reducible refine wpList_store_row (o := ⟨none, _, _, _, _, _⟩) rfl 31 (.tmp 20) (.tmp 37) rfl g12 31 _ (keyC bl) (by with_unfolding_all rfl) (by with_unfolding_all rfl) n12.row (keyC_sameN zero64B_length L2.out) (Tryd.size64B bl L2.out) (keyC_one bl) ?_); intro w13 p13))
  have b13 := (laid_put n12 p13).1
  have R2 := Lib.hid (R2b.out.kept b13)
  have R3 := Lib.hid (R3b.out.kept b13)
  have R6 := Lib.hid (R6b.out.kept b13)
  have R9 := Lib.hid (R9b.out.kept b13)
  have R12 := Lib.hid p13.row
  have BF := Lib.hid (below_size Bb.out b13)
  clear b13 n12 p13 R2b R3b R6b R9b Bb
  have E1 : Hid (∀ W, (Op.equalIn 10000 24 (.agg (wordsC x1)) (.agg (wordsC x1))).run Tryd.prog W = .ok true W) := fun W => by
    have := Tryd.eqWordsIn x1 x1 L1.out L1.out W
    rwa [beq_self_eq_true] at this
  refine plain_region (S := fun W' => Below w13.heap.size w13 W') (fin := fun _ => false) (by kernel_rfl) ?_
  have hS : Below w13.heap.size w13 w13.drew := (Below.refl _ _).drew
  change walkS _ _ _ _ _ _ 15 _ _ _
  refine walkS_take (i := 0) (oi := ⟨some 38, _, _, _, _, _⟩) (v := .bool true) rfl (by kernel_rfl) (by kernel_rfl) (fun _ _ _ h => h) _ _ _ _ (by kernel_rfl) (by kernel_rfl) (Or.inl ⟨by rfl, fun w' hS' => (by clear hS hS'; go_simp)⟩) hS ?_
  simp only [Act.put, List.setIfInBounds_toArray, List.set_cons_zero, List.set_cons_succ]
  refine walkS_take (i := 1) (oi := ⟨some 39, _, _, _, _, _⟩) (v := .bool true) rfl (by kernel_rfl) (by kernel_rfl) (fun _ _ _ h => h) _ _ _ _ (by kernel_rfl) (by kernel_rfl) (Or.inl ⟨by rfl, fun w' hS' => (by clear hS hS'; go_simp)⟩) hS ?_
  simp only [Act.put, List.setIfInBounds_toArray, List.set_cons_zero, List.set_cons_succ]
  refine walkS_take (i := 2) (oi := ⟨some 40, _, _, _, _, _⟩) (v := .agg (wordsC x1)) rfl (by kernel_rfl) (by kernel_rfl) (fun _ _ _ h => h) _ _ _ _ (by kernel_rfl) (by kernel_rfl) (Or.inl ⟨by go_simp, fun w' hS' => run_load_row _ (.tmp 18) rfl g6 rfl _ (wordsC x1) (0, 0) (.array 16 22) (R6.out.kept hS') Tryd.underlying24 rfl (Tryd.sizeWs x1 L1.out)⟩) hS ?_
  simp only [Act.put, List.setIfInBounds_toArray, List.set_cons_zero, List.set_cons_succ]
  refine walkS_take (i := 3) (oi := ⟨some 41, _, _, _, _, _⟩) (v := .agg (wordsC x1)) rfl (by kernel_rfl) (by kernel_rfl) (fun _ _ _ h => h) _ _ _ _ (by kernel_rfl) (by kernel_rfl) (Or.inl ⟨by go_simp, fun w' hS' => run_load_row _ (.tmp 19) rfl g9 rfl _ (wordsC x1) (0, 0) (.array 16 22) (R9.out.kept hS') Tryd.underlying23 rfl (Tryd.sizeW16 x1 L1.out)⟩) hS ?_
  simp only [Act.put, List.setIfInBounds_toArray, List.set_cons_zero, List.set_cons_succ]
  refine walkS_take (i := 4) (oi := ⟨some 42, _, _, _, _, _⟩) (v := .bool true) rfl (by kernel_rfl) (by kernel_rfl) (fun _ _ _ h => h) _ _ _ _ (by kernel_rfl) (by kernel_rfl) (Or.inl ⟨by go_simp, fun w' hS' => (by have he := E1.out; have hgd := Tryd.eqGuardWords; clear hS hS'; go_simp)⟩) hS ?_
  simp only [Act.put, List.setIfInBounds_toArray, List.set_cons_zero, List.set_cons_succ]
  refine walkS_take (i := 5) (oi := ⟨some 43, _, _, _, _, _⟩) (v := .bool true) rfl (by kernel_rfl) (by kernel_rfl) (fun _ _ _ h => h) _ _ _ _ (by kernel_rfl) (by kernel_rfl) (Or.inl ⟨by rfl, fun w' hS' => (by clear hS hS'; go_simp)⟩) hS ?_
  simp only [Act.put, List.setIfInBounds_toArray, List.set_cons_zero, List.set_cons_succ]
  refine walkS_take (i := 6) (oi := ⟨some 44, _, _, _, _, _⟩) (v := .bool true) rfl (by kernel_rfl) (by kernel_rfl) (fun _ _ _ h => h) _ _ _ _ (by kernel_rfl) (by kernel_rfl) (Or.inl ⟨by rfl, fun w' hS' => (by clear hS hS'; go_simp)⟩) hS ?_
  simp only [Act.put, List.setIfInBounds_toArray, List.set_cons_zero, List.set_cons_succ]
  refine walkS_take (i := 7) (oi := ⟨some 45, _, _, _, _, _⟩) (v := .agg (keyC bl)) rfl (by kernel_rfl) (by kernel_rfl) (fun _ _ _ h => h) _ _ _ _ (by kernel_rfl) (by kernel_rfl) (Or.inl ⟨by go_simp, fun w' hS' => run_load_row _ (.tmp 20) rfl g12 rfl _ (keyC bl) (0, 0) (.array 64 5) (R12.out.kept hS') Tryd.underlying31 rfl (Tryd.size64B bl L2.out)⟩) hS ?_
  simp only [Act.put, List.setIfInBounds_toArray, List.set_cons_zero, List.set_cons_succ]
  refine walkS_take (i := 8) (oi := ⟨some 46, _, _, _, _, _⟩) (v := .agg (keyC key)) rfl (by kernel_rfl) (by kernel_rfl) (fun _ _ _ h => h) _ _ _ _ (by kernel_rfl) (by kernel_rfl) (Or.inl ⟨by go_simp, fun w' hS' => run_load_row _ (.tmp 13) rfl g2 rfl _ (keyC key) (0, 0) (.array 32 5) (R2.out.kept hS') Tryd.underlying26 rfl (Tryd.sizeKey key HK.out)⟩) hS ?_
  simp only [Act.put, List.setIfInBounds_toArray, List.set_cons_zero, List.set_cons_succ]
  refine walkS_take (i := 9) (oi := ⟨some 47, _, _, _, _, _⟩) (v := .int .u32 (ctr.toNat : Int)) rfl (by kernel_rfl) (by kernel_rfl) (fun _ _ _ h => h) _ _ _ _ (by kernel_rfl) (by kernel_rfl) (Or.inl ⟨by go_simp, fun w' hS' => (by clear hS hS'; go_simp)⟩) hS ?_
  simp only [Act.put, List.setIfInBounds_toArray, List.set_cons_zero, List.set_cons_succ]
  refine walkS_take (i := 10) (oi := ⟨some 48, _, _, _, _, _⟩) (v := .agg (keyC nonce)) rfl (by kernel_rfl) (by kernel_rfl) (fun _ _ _ h => h) _ _ _ _ (by kernel_rfl) (by kernel_rfl) (Or.inl ⟨by go_simp, fun w' hS' => run_load_row _ (.tmp 15) rfl g3 rfl _ (keyC nonce) (0, 0) (.array 12 5) (R3.out.kept hS') Tryd.underlying27 rfl (Tryd.sizeN nonce HN.out)⟩) hS ?_
  simp only [Act.put, List.setIfInBounds_toArray, List.set_cons_zero, List.set_cons_succ]
  refine walkS_onlyG (i := 11) (o := ⟨some 49, _, _, _, _, _⟩) (by kernel_rfl) rfl (by go_simp) fun K hK => ?_
  clear hS
  go_simp
  refine (Q4.out _).mono ?_
  rintro e w14 ⟨rfl, b14⟩
  have hS : Below w13.heap.size w13 w14 := below_size (Below.refl _ _).drew b14
  refine hK _ _ (.inr hS) ?_
  clear hK K b14
  refine walkS_take (i := 12) (oi := ⟨some 50, _, _, _, _, _⟩) (v := .bool true) rfl (by kernel_rfl) (by kernel_rfl) (fun _ _ _ h => h) _ _ _ _ (by kernel_rfl) (by kernel_rfl) (Or.inl ⟨by go_simp, fun w' hS' => eq64_run (.tmp 45) (.tmp 49) _ rfl bl L2.out rfl rfl⟩) hS ?_
  simp only [Act.put, List.setIfInBounds_toArray, List.set_cons_zero, List.set_cons_succ]
  refine walkS_take (i := 13) (oi := ⟨some 51, _, _, _, _, _⟩) (v := .bool true) rfl (by kernel_rfl) (by kernel_rfl) (fun _ _ _ h => h) _ _ _ _ (by kernel_rfl) (by kernel_rfl) (Or.inl ⟨by rfl, fun w' hS' => (by clear hS hS'; go_simp)⟩) hS ?_
  simp only [Act.put, List.setIfInBounds_toArray, List.set_cons_zero, List.set_cons_succ]
  refine walkS_take (i := 14) (oi := ⟨some 16, _, _, _, _, _⟩) (v := .bool true) rfl (by kernel_rfl) (by kernel_rfl) (fun _ _ _ h => h) _ _ _ _ (by kernel_rfl) (by kernel_rfl) (Or.inl ⟨by rfl, fun w' hS' => (by clear hS hS'; go_simp)⟩) hS ?_
  simp only [Act.put, List.setIfInBounds_toArray, List.set_cons_zero, List.set_cons_succ]
  refine walkS_done (by kernel_rfl) ?_ _
  go_wp2
  go_ret
  exact ⟨rfl, below_size BF.out hS⟩
end Go.Proofs.YtplaoofclgpeeaaDoor
