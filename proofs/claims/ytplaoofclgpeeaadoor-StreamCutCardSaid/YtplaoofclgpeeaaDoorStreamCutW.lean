/-
  The walk of StreamCut. Conditions: what a row hands over.
-/
import Derived.Test.YtplaoofclgpeeaaDoorStreamE
import Derived.Test.YtplaoofclgpeeaaDoorSame
import Derived.Test.YtplaoofclgpeeaaDoorHeld
namespace Go.Proofs.YtplaoofclgpeeaaDoor
open Go.RowKit
set_option linter.unusedVariables false
set_option maxRecDepth 20000

theorem Bs.head {w : World} {A : Option Addr} {n c : Nat} {l : List UInt8} (h : Bs w (.slice A n c) l) (k : Nat) (hk : k ≤ l.length) : Bs w (.slice A k c) (l.take k) := by
  obtain ⟨A', c', hv, h1, h2, h3⟩ := h
  injection hv with e1 e2 e3
  subst e1 e2 e3
  have hl : (l.take k).length = k := List.length_take_of_le hk
  refine ⟨A, c, by rw [hl], by rw [hl]; omega, h2, fun h0 => ?_⟩
  rw [hl] at h0
  obtain ⟨b, off, hA, hc⟩ := h3 (by omega)
  refine ⟨b, off, hA, fun j hj => ?_⟩
  rw [hl] at hj
  rw [hc j (by omega)]
  simp

set_option maxHeartbeats 4000000 in
theorem cut_out (w : World) (hq : Quar w) (key : List UInt8) (ctr : UInt32) (nonce : List UInt8) (v : Value) (text : List UInt8) (hb : Bs w v text) (left : Int)
    (h : 400 < text.length ∨ left < 0 ∨ (text.length : Int) < left) :
    Calls Tryd.prog 8 #[keyV key, .int .u32 (ctr.toNat : Int), keyV nonce, v, .int .i64 left] w (RetV w (.bool true)) := by
  have HQ := Lib.hid hq
  obtain ⟨A, c, rfl, h1, h2, h3⟩ := hb
  unfold maxLen at h2
  clear h3 hq
  have cases : decide ((400 : Int) < (text.length : Int)) = true ∨ (decide ((400 : Int) < (text.length : Int)) = false ∧ decide (left < 0) = true) ∨ (decide ((400 : Int) < (text.length : Int)) = false ∧ decide (left < 0) = false ∧ decide ((text.length : Int) < left) = true) := by
    simp only [decide_eq_true_eq, decide_eq_false_iff_not]
    omega
  clear h
  rcases cases with d1 | ⟨d1, d2⟩ | ⟨d1, d2, d3⟩
  all_goals
    go_enter Tryd.func8, Tryd.ntmps8
    go_wp2_with (first
      | ((with_reducible refine wpList_box_row (o := ⟨some 5, _, _, _, _, _⟩) rfl 26 (.tmp 0) rfl (keyC key) (by with_unfolding_all rfl) ?_); intro g1 w1 n1)
      | ((with_reducible refine wpList_box_row (o := ⟨some 7, _, _, _, _, _⟩) rfl 27 (.tmp 2) rfl (keyC nonce) (by with_unfolding_all rfl) ?_); intro g2 w2 n2))
    have B2 := below_size n1.below n2.below
    refine (awake_true _ (HQ.out.below B2)).mono ?_
    rintro e w3 ⟨rfl, b3⟩
    go_wp2
    go_ret
    exact ⟨rfl, below_size B2 b3⟩

set_option maxHeartbeats 4000000 in
theorem cut_in (w : World) (hq : Quar w) (key : List UInt8) (hk : key.length = 32) (ctr : UInt32) (nonce : List UInt8) (hn : nonce.length = 12) (v : Value) (text : List UInt8) (hb : Bs w v text) (left : Nat) (hl : text.length ≤ 400) (hle : left ≤ text.length) :
    Calls Tryd.prog 8 #[keyV key, .int .u32 (ctr.toNat : Int), keyV nonce, v, .int .i64 (left : Int)] w (RetV w (.bool true)) := by
  have HV := Lib.hid hb
  have HQ := Lib.hid hq
  have HK := Lib.hid hk
  have HN := Lib.hid hn
  obtain ⟨A, c, rfl, h1, h2, h3⟩ := hb
  unfold maxLen at h2
  clear h3 hq hk hn
  have d1 : decide ((400 : Int) < (text.length : Int)) = false := by simp; omega
  have d2 : decide ((left : Int) < 0) = false := by simp
  have d3 : decide ((text.length : Int) < (left : Int)) = false := by simp; omega
  have d4 : decide (text.length < left) = false := by simp; omega
  have hlc : (left : Int) ≤ (c : Int) := by omega
  have HL : Hid ((mixS key ctr nonce text).length = text.length) := mixS_length _ _ _ _
  have HT : Hid ((mixS key ctr nonce text).take left = mixS key ctr nonce (text.take left)) := mixS_cut _ _ _ _ _ hle
  have M1 : Hid (∀ x, Quar x → ∀ u, Bs x u text → _) := fun x hq u hu => Mix_ok x hq key nonce text ctr u hu HK.out HN.out (by omega)
  have M2 : Hid (∀ x, Quar x → ∀ u, Bs x u (text.take left) → _) := fun x hq u hu => Mix_ok x hq key nonce (text.take left) ctr u hu HK.out HN.out (by rw [List.length_take]; omega)
  rw [← HT.out] at M2
  clear HT
  generalize mixS key ctr nonce text = mid at *
  go_enter Tryd.func8, Tryd.ntmps8
  go_wp2_with (first
    | ((with_reducible refine wpList_box_row (o := ⟨some 5, _, _, _, _, _⟩) rfl 26 (.tmp 0) rfl (keyC key) (by with_unfolding_all rfl) ?_); intro g1 w1 n1)
    | ((with_reducible refine wpList_box_row (o := ⟨some 7, _, _, _, _, _⟩) rfl 27 (.tmp 2) rfl (keyC nonce) (by with_unfolding_all rfl) ?_); intro g2 w2 n2))
  have B2 := below_size n1.below n2.below
  refine (awake_true _ (HQ.out.below B2)).mono ?_
  rintro e w3 ⟨rfl, b3⟩
  have B3 := Lib.hid (below_size B2 b3)
  have R1 := Lib.hid ((n1.row.kept n2.below).kept b3)
  have R2 := Lib.hid (n2.row.kept b3)
  clear B2 n1 n2 b3
  go_wp2_with (first
    | (with_reducible refine wpList_load_row (o := ⟨some 32, _, _, _, _, _⟩) rfl 26 (.tmp 5) rfl g1 (by with_unfolding_all rfl) 26 (keyC key) (0, 0) (.array 32 5) (by with_unfolding_all exact R1.out) Tryd.underlying26 rfl (Tryd.sizeKey key HK.out) ?_)
    | (with_reducible refine wpList_load_row (o := ⟨some 34, _, _, _, _, _⟩) rfl 27 (.tmp 7) rfl g2 (by with_unfolding_all rfl) 27 (keyC nonce) (0, 0) (.array 12 5) (by with_unfolding_all exact R2.out) Tryd.underlying27 rfl (Tryd.sizeN nonce HN.out) ?_))
  refine (M1.out _ (HQ.out.below B3.out) _ (HV.out.below B3.out)).mono ?_
  rintro e w4 ⟨u, rfl, hu4, b4⟩
  have B4 := Lib.hid (below_size B3.out b4)
  have R14 := R1.out.kept b4
  have R24 := R2.out.kept b4
  have HU := Lib.hid hu4
  obtain ⟨A1, c1, rfl, hm1, hm2, _⟩ := hu4
  unfold maxLen at hm2
  clear b4 R1 R2 B3
  go_wp2_with fail
  refine plain_region (S := fun W' => RowAt W' g1 26 (keyC key) ∧ RowAt W' g2 27 (keyC nonce)) (fin := fun _ => false) (by kernel_rfl) ?_
  have hS : RowAt w4.drew g1 26 (keyC key) ∧ RowAt w4.drew g2 27 (keyC nonce) := ⟨R14, R24⟩
  clear R14 R24
  change walkS _ _ _ _ _ _ 12 _ _ _
  refine walkS_take (i := 0) (oi := ⟨some 40, _, _, _, _, _⟩) (v := .agg (keyC key)) rfl (by kernel_rfl) (by kernel_rfl) (fun _ _ _ h => h) _ _ _ _ (by kernel_rfl) (by kernel_rfl) (Or.inl ⟨by rfl, fun w' hS' => run_load_row _ (.tmp 5) rfl g1 rfl _ (keyC key) (0, 0) (.array 32 5) hS'.1 Tryd.underlying26 rfl (Tryd.sizeKey key HK.out)⟩) hS ?_
  simp only [Act.put, List.setIfInBounds_toArray, List.set_cons_zero, List.set_cons_succ]
  refine walkS_take (i := 1) (oi := ⟨some 41, _, _, _, _, _⟩) (v := .int .u32 (ctr.toNat : Int)) rfl (by kernel_rfl) (by kernel_rfl) (fun _ _ _ h => h) _ _ _ _ (by kernel_rfl) (by kernel_rfl) (Or.inl ⟨by rfl, fun w' hS' => (by clear hS hS'; go_simp)⟩) hS ?_
  simp only [Act.put, List.setIfInBounds_toArray, List.set_cons_zero, List.set_cons_succ]
  refine walkS_take (i := 2) (oi := ⟨some 42, _, _, _, _, _⟩) (v := .agg (keyC nonce)) rfl (by kernel_rfl) (by kernel_rfl) (fun _ _ _ h => h) _ _ _ _ (by kernel_rfl) (by kernel_rfl) (Or.inl ⟨by rfl, fun w' hS' => run_load_row _ (.tmp 7) rfl g2 rfl _ (keyC nonce) (0, 0) (.array 12 5) hS'.2 Tryd.underlying27 rfl (Tryd.sizeN nonce HN.out)⟩) hS ?_
  simp only [Act.put, List.setIfInBounds_toArray, List.set_cons_zero, List.set_cons_succ]
  refine walkS_take (i := 3) (oi := ⟨some 43, _, _, _, _, _⟩) (v := .slice A text.length c) rfl (by kernel_rfl) (by kernel_rfl) (fun _ _ _ h => h) _ _ _ _ (by kernel_rfl) (by kernel_rfl) (Or.inl ⟨by rfl, fun w' hS' => (by clear hS hS'; go_simp)⟩) hS ?_
  simp only [Act.put, List.setIfInBounds_toArray, List.set_cons_zero, List.set_cons_succ]
  refine walkS_take (i := 4) (oi := ⟨some 44, _, _, _, _, _⟩) (v := .int .i64 (left : Int)) rfl (by kernel_rfl) (by kernel_rfl) (fun _ _ _ h => h) _ _ _ _ (by kernel_rfl) (by kernel_rfl) (Or.inl ⟨by rfl, fun w' hS' => (by clear hS hS'; go_simp)⟩) hS ?_
  simp only [Act.put, List.setIfInBounds_toArray, List.set_cons_zero, List.set_cons_succ]
  refine walkS_take (i := 5) (oi := ⟨some 45, _, _, _, _, _⟩) (v := .slice A left c) rfl (by kernel_rfl) (by kernel_rfl) (fun _ _ _ h => h) _ _ _ _ (by kernel_rfl) (by kernel_rfl) (Or.inl ⟨by rfl, fun w' hS' => (by clear hS hS'; go_simp)⟩) hS ?_
  simp only [Act.put, List.setIfInBounds_toArray, List.set_cons_zero, List.set_cons_succ]
  have HX := Lib.hid ((HV.out.below B4.out).head left (by omega))
  refine walkS_only (i := 6) (o := ⟨some 46, _, _, _, _, _⟩) (by kernel_rfl) rfl rfl fun K hK => ?_
  have HS := Lib.hid hS
  clear hS
  go_simp
  refine (M2.out _ ((HQ.out.below B4.out).below (Below.refl _ _).drew) _ HX.out.drew).mono ?_
  rintro e w5 ⟨u2, rfl, hu5, b5⟩
  have b5' : Below w4.heap.size w4 w5 := below_size (Below.refl _ _).drew b5
  have hS5 : RowAt w5 g1 26 (keyC key) ∧ RowAt w5 g2 27 (keyC nonce) := ⟨HS.out.1.kept b5, HS.out.2.kept b5⟩
  have HU5 := Lib.hid hu5
  have B5 := Lib.hid (below_size B4.out b5')
  have HU4 := Lib.hid (HU.out.below b5')
  refine hK _ _ (.inr hS5) ?_
  clear hK K b5 b5' hu5 HS
  refine walkS_take (i := 7) (oi := ⟨some 39, _, _, _, _, _⟩) (v := .tuple #[u2, .int .i64 0]) rfl (by kernel_rfl) (by kernel_rfl) (fun _ _ _ h => h) _ _ _ _ (by kernel_rfl) (by kernel_rfl) (Or.inl ⟨by rfl, fun w' hS' => (by clear hS5 hS'; go_simp)⟩) hS5 ?_
  simp only [Act.put, List.setIfInBounds_toArray, List.set_cons_zero, List.set_cons_succ]
  refine walkS_take (i := 8) (oi := ⟨some 47, _, _, _, _, _⟩) (v := u2) rfl (by kernel_rfl) (by kernel_rfl) (fun _ _ _ h => h) _ _ _ _ (by kernel_rfl) (by kernel_rfl) (Or.inl ⟨by rfl, fun w' hS' => (by clear hS5 hS'; go_simp)⟩) hS5 ?_
  simp only [Act.put, List.setIfInBounds_toArray, List.set_cons_zero, List.set_cons_succ]
  refine walkS_take (i := 9) (oi := ⟨some 48, _, _, _, _, _⟩) (v := .int .i64 0) rfl (by kernel_rfl) (by kernel_rfl) (fun _ _ _ h => h) _ _ _ _ (by kernel_rfl) (by kernel_rfl) (Or.inl ⟨by rfl, fun w' hS' => (by clear hS5 hS'; go_simp)⟩) hS5 ?_
  simp only [Act.put, List.setIfInBounds_toArray, List.set_cons_zero, List.set_cons_succ]
  refine walkS_take (i := 10) (oi := ⟨some 14, _, _, _, _, _⟩) (v := u2) rfl (by kernel_rfl) (by kernel_rfl) (fun _ _ _ h => h) _ _ _ _ (by kernel_rfl) (by kernel_rfl) (Or.inl ⟨by rfl, fun w' hS' => (by clear hS5 hS'; go_simp)⟩) hS5 ?_
  simp only [Act.put, List.setIfInBounds_toArray, List.set_cons_zero, List.set_cons_succ]
  refine walkS_take (i := 11) (oi := ⟨some 15, _, _, _, _, _⟩) (v := .int .i64 0) rfl (by kernel_rfl) (by kernel_rfl) (fun _ _ _ h => h) _ _ _ _ (by kernel_rfl) (by kernel_rfl) (Or.inl ⟨by rfl, fun w' hS' => (by clear hS5 hS'; go_simp)⟩) hS5 ?_
  simp only [Act.put, List.setIfInBounds_toArray, List.set_cons_zero, List.set_cons_succ]
  refine walkS_done (by kernel_rfl) ?_ _
  have hlen : ((mid.length : Int) != (text.length : Int)) = false := by rw [HL.out]; simp
  have hm64 : (left : Int) ≤ (c1 : Int) := by have := HL.out; omega
  have hcut := Lib.hid (HU4.out.head left (by rw [HL.out]; omega))
  go_wp2_with fail
  refine (same_yes _ _ _ (mid.take left) hcut.out HU5.out).mono ?_
  rintro e w6 ⟨rfl, b6⟩
  have B6 := Lib.hid (below_size B5.out b6)
  clear b6
  go_wp2
  go_ret
  exact ⟨rfl, B6.out⟩

theorem streamCut_walk (w : World) (hq : Quar w) (key : List UInt8) (hk : key.length = 32) (ctr : UInt32) (nonce : List UInt8) (hn : nonce.length = 12) (v : Value) (text : List UInt8) (hb : Bs w v text) (left : Int) (hl : -9223372036854775808 ≤ left ∧ left ≤ 9223372036854775807) :
    Calls Tryd.prog 8 #[keyV key, .int .u32 (ctr.toNat : Int), keyV nonce, v, .int .i64 left] w (RetV w (.bool true)) := by
  by_cases h : 400 < text.length ∨ left < 0 ∨ (text.length : Int) < left
  · exact cut_out w hq key ctr nonce v text hb left h
  · obtain ⟨k, rfl⟩ := Int.eq_ofNat_of_zero_le (a := left) (by omega)
    exact cut_in w hq key hk ctr nonce hn v text hb k (by omega) (by omega)
end Go.Proofs.YtplaoofclgpeeaaDoor
