/-
  The walk of StreamFurther. Conditions: what a row hands over.
-/
import Derived.Test.YtplaoofclgpeeaaDoorStreamE
import Derived.Test.YtplaoofclgpeeaaDoorSame
import Derived.Test.YtplaoofclgpeeaaDoorHeld
namespace Go.Proofs.YtplaoofclgpeeaaDoor
open Go.RowKit
set_option linter.unusedVariables false
set_option maxRecDepth 20000

set_option maxHeartbeats 4000000 in
theorem streamFurther_walk (w : World) (hq : Quar w) (key : List UInt8) (hk : key.length = 32) (ctr : UInt32) (nonce : List UInt8) (hn : nonce.length = 12) (v : Value) (text : List UInt8) (hb : Bs w v text) :
    Calls Tryd.prog 6 #[keyV key, .int .u32 (ctr.toNat : Int), keyV nonce, v] w (RetV w (.bool true)) := by
  have HV := Lib.hid hb
  have HQ := Lib.hid hq
  have HK := Lib.hid hk
  have HN := Lib.hid hn
  obtain ⟨A, c, rfl, h1, h2, h3⟩ := hb
  unfold maxLen at h2
  clear h3 hq hk hn
  have hkeep := fun (d : ((text.length : Int) < 64) ∨ 400 < (text.length : Int)) => d
  by_cases hs : text.length < 64
  · have d1 : decide ((text.length : Int) < 64) = true := by simp; omega
    clear hkeep
    go_enter Tryd.func6, Tryd.ntmps6
    go_wp2_with (first
      | ((with_reducible refine wpList_box_row (o := ⟨some 4, _, _, _, _, _⟩) rfl 26 (.tmp 0) rfl (keyC key) (by with_unfolding_all rfl) ?_); intro g1 w1 n1)
      | ((with_reducible refine wpList_box_row (o := ⟨some 6, _, _, _, _, _⟩) rfl 27 (.tmp 2) rfl (keyC nonce) (by with_unfolding_all rfl) ?_); intro g2 w2 n2))
    have B2 := below_size n1.below n2.below
    refine (awake_true _ (HQ.out.below B2)).mono ?_
    rintro e w3 ⟨rfl, b3⟩
    go_wp2
    go_ret
    exact ⟨rfl, below_size B2 b3⟩
  · by_cases hl : 400 < text.length
    · have d1 : decide ((text.length : Int) < 64) = false := by simp; omega
      have d2 : decide ((400 : Int) < (text.length : Int)) = true := by simp; omega
      clear hkeep
      go_enter Tryd.func6, Tryd.ntmps6
      go_wp2_with (first
        | ((with_reducible refine wpList_box_row (o := ⟨some 4, _, _, _, _, _⟩) rfl 26 (.tmp 0) rfl (keyC key) (by with_unfolding_all rfl) ?_); intro g1 w1 n1)
        | ((with_reducible refine wpList_box_row (o := ⟨some 6, _, _, _, _, _⟩) rfl 27 (.tmp 2) rfl (keyC nonce) (by with_unfolding_all rfl) ?_); intro g2 w2 n2))
      have B2 := below_size n1.below n2.below
      refine (awake_true _ (HQ.out.below B2)).mono ?_
      rintro e w3 ⟨rfl, b3⟩
      go_wp2
      go_ret
      exact ⟨rfl, below_size B2 b3⟩
    · have d1 : decide ((text.length : Int) < 64) = false := by simp; omega
      have d2 : decide ((400 : Int) < (text.length : Int)) = false := by simp; omega
      clear hkeep
      have HL : Hid ((mixS key ctr nonce text).length = text.length) := mixS_length _ _ _ _
      have HT : Hid ((mixS key ctr nonce text).drop 64 = mixS key (ctr + 1) nonce (text.drop 64)) := mixS_further _ _ _ _ (by omega)
      have M1 : Hid (∀ x, Quar x → ∀ u, Bs x u text → _) := fun x hq u hu => Mix_ok x hq key nonce text ctr u hu HK.out HN.out (by omega)
      have M2 : Hid (∀ x, Quar x → ∀ u, Bs x u (text.drop 64) → _) := fun x hq u hu => Mix_ok x hq key nonce (text.drop 64) (ctr + 1) u hu HK.out HN.out (by rw [List.length_drop]; omega)
      rw [← HT.out] at M2
      have hcw : IntKind.u32.wrap ((ctr.toNat : Int) + 1) = ((ctr + 1).toNat : Int) := by rw [IntKind.wrap_u32, UInt32.toNat_add]; show _ = (((ctr.toNat + 1) % 4294967296 : Nat) : Int); omega
      have HCW := Lib.hid hcw
      generalize ctr + 1 = ctr2 at *
      clear HT hcw
      generalize mixS key ctr nonce text = mid at *
      go_enter Tryd.func6, Tryd.ntmps6
      go_wp2_with (first
        | ((with_reducible refine wpList_box_row (o := ⟨some 4, _, _, _, _, _⟩) rfl 26 (.tmp 0) rfl (keyC key) (by with_unfolding_all rfl) ?_); intro g1 w1 n1)
        | ((with_reducible refine wpList_box_row (o := ⟨some 6, _, _, _, _, _⟩) rfl 27 (.tmp 2) rfl (keyC nonce) (by with_unfolding_all rfl) ?_); intro g2 w2 n2))
      have B2 := below_size n1.below n2.below
      refine (awake_true _ (HQ.out.below B2)).mono ?_
      rintro e w3 ⟨rfl, b3⟩
      have B3 := Lib.hid (below_size B2 b3)
      have R1 := Lib.hid ((n1.row.kept n2.below).kept b3)
      have R2 := Lib.hid (n2.row.kept b3)
      clear B2 n1 n2 b3
      go_wp2_with (first
        | (with_reducible refine wpList_load_row (o := ⟨some 25, _, _, _, _, _⟩) rfl 26 (.tmp 4) rfl g1 (by with_unfolding_all rfl) 26 (keyC key) (0, 0) (.array 32 5) (by with_unfolding_all exact R1.out) Tryd.underlying26 rfl (Tryd.sizeKey key HK.out) ?_)
        | (with_reducible refine wpList_load_row (o := ⟨some 27, _, _, _, _, _⟩) rfl 27 (.tmp 6) rfl g2 (by with_unfolding_all rfl) 27 (keyC nonce) (0, 0) (.array 12 5) (by with_unfolding_all exact R2.out) Tryd.underlying27 rfl (Tryd.sizeN nonce HN.out) ?_))
      refine (M1.out _ (HQ.out.below B3.out) _ (HV.out.below B3.out)).mono ?_
      rintro e w4 ⟨u, rfl, hu4, b4⟩
      have B4 := Lib.hid (below_size B3.out b4)
      have R14 := R1.out.kept b4
      have R24 := R2.out.kept b4
      have HU := Lib.hid hu4
      obtain ⟨A1, c1, rfl, hm1, hm2, _⟩ := hu4
      unfold maxLen at hm2
      clear b4 R1 R2 B3
      go_wp2_with fail
      refine plain_region (S := fun W' => RowAt W' g1 26 (keyC key) ∧ RowAt W' g2 27 (keyC nonce)) (fin := fun _ => false) (by kernel_rfl) ?_
      have hS : RowAt w4.drew g1 26 (keyC key) ∧ RowAt w4.drew g2 27 (keyC nonce) := ⟨R14, R24⟩
      clear R14 R24
      change walkS _ _ _ _ _ _ 12 _ _ _
      refine walkS_take (i := 0) (oi := ⟨some 33, _, _, _, _, _⟩) (v := .agg (keyC key)) rfl (by kernel_rfl) (by kernel_rfl) (fun _ _ _ h => h) _ _ _ _ (by kernel_rfl) (by kernel_rfl) (Or.inl ⟨by rfl, fun w' hS' => run_load_row _ (.tmp 4) rfl g1 rfl _ (keyC key) (0, 0) (.array 32 5) hS'.1 Tryd.underlying26 rfl (Tryd.sizeKey key HK.out)⟩) hS ?_
      simp only [Act.put, List.setIfInBounds_toArray, List.set_cons_zero, List.set_cons_succ]
      refine walkS_take (i := 1) (oi := ⟨some 34, _, _, _, _, _⟩) (v := .int .u32 (ctr.toNat : Int)) rfl (by kernel_rfl) (by kernel_rfl) (fun _ _ _ h => h) _ _ _ _ (by kernel_rfl) (by kernel_rfl) (Or.inl ⟨by rfl, fun w' hS' => (by clear hS hS'; go_simp)⟩) hS ?_
      simp only [Act.put, List.setIfInBounds_toArray, List.set_cons_zero, List.set_cons_succ]
      refine walkS_take (i := 2) (oi := ⟨some 35, _, _, _, _, _⟩) (v := .int .u32 (IntKind.u32.wrap ((ctr.toNat : Int) + 1))) rfl (by kernel_rfl) (by kernel_rfl) (fun _ _ _ h => h) _ _ _ _ (by kernel_rfl) (by kernel_rfl) (Or.inl ⟨by rfl, fun w' hS' => (by clear hS hS'; go_simp)⟩) hS ?_
      simp only [Act.put, List.setIfInBounds_toArray, List.set_cons_zero, List.set_cons_succ]
      refine walkS_take (i := 3) (oi := ⟨some 36, _, _, _, _, _⟩) (v := .agg (keyC nonce)) rfl (by kernel_rfl) (by kernel_rfl) (fun _ _ _ h => h) _ _ _ _ (by kernel_rfl) (by kernel_rfl) (Or.inl ⟨by rfl, fun w' hS' => run_load_row _ (.tmp 6) rfl g2 rfl _ (keyC nonce) (0, 0) (.array 12 5) hS'.2 Tryd.underlying27 rfl (Tryd.sizeN nonce HN.out)⟩) hS ?_
      simp only [Act.put, List.setIfInBounds_toArray, List.set_cons_zero, List.set_cons_succ]
      refine walkS_take (i := 4) (oi := ⟨some 37, _, _, _, _, _⟩) (v := .slice A text.length c) rfl (by kernel_rfl) (by kernel_rfl) (fun _ _ _ h => h) _ _ _ _ (by kernel_rfl) (by kernel_rfl) (Or.inl ⟨by rfl, fun w' hS' => (by clear hS hS'; go_simp)⟩) hS ?_
      simp only [Act.put, List.setIfInBounds_toArray, List.set_cons_zero, List.set_cons_succ]
      refine walkS_take (i := 5) (oi := ⟨some 38, _, _, _, _, _⟩) (v := .slice (if c = 64 then A else Option.map (fun x => x.add 64) A) (text.length - 64) (c - 64)) rfl (by kernel_rfl) (by kernel_rfl) (fun _ _ _ h => h) _ _ _ _ (by kernel_rfl) (by kernel_rfl) (Or.inl ⟨by rfl, fun w' hS' => (by clear hS hS'; go_simp; intro h; omega)⟩) hS ?_
      simp only [Act.put, List.setIfInBounds_toArray, List.set_cons_zero, List.set_cons_succ]
      rw [HCW.out]
      have HX := Lib.hid ((HV.out.below B4.out).cut 64 (by omega))
      generalize Value.slice (if c = 64 then A else Option.map (fun x => x.add 64) A) (text.length - 64) (c - 64) = sv at HX ⊢
      refine walkS_only (i := 6) (o := ⟨some 39, _, _, _, _, _⟩) (by kernel_rfl) rfl rfl fun K hK => ?_
      have HS := Lib.hid hS
      clear hS
      go_simp
      refine (M2.out _ ((HQ.out.below B4.out).below (Below.refl _ _).drew) _ HX.out.drew).mono ?_
      rintro e w5 ⟨u2, rfl, hu5, b5⟩
      have b5' : Below w4.heap.size w4 w5 := below_size (Below.refl _ _).drew b5
      have hS5 : RowAt w5 g1 26 (keyC key) ∧ RowAt w5 g2 27 (keyC nonce) := ⟨HS.out.1.kept b5, HS.out.2.kept b5⟩
      have HU5 := Lib.hid hu5
      have B5 := Lib.hid (below_size B4.out b5')
      have HU4 := Lib.hid (HU.out.below b5')
      refine hK _ _ (.inr hS5) ?_
      clear hK K b5 b5' hu5 HS
      refine walkS_take (i := 7) (oi := ⟨some 32, _, _, _, _, _⟩) (v := .tuple #[u2, .int .i64 0]) rfl (by kernel_rfl) (by kernel_rfl) (fun _ _ _ h => h) _ _ _ _ (by kernel_rfl) (by kernel_rfl) (Or.inl ⟨by rfl, fun w' hS' => (by clear hS5 hS'; go_simp)⟩) hS5 ?_
      simp only [Act.put, List.setIfInBounds_toArray, List.set_cons_zero, List.set_cons_succ]
      refine walkS_take (i := 8) (oi := ⟨some 40, _, _, _, _, _⟩) (v := u2) rfl (by kernel_rfl) (by kernel_rfl) (fun _ _ _ h => h) _ _ _ _ (by kernel_rfl) (by kernel_rfl) (Or.inl ⟨by rfl, fun w' hS' => (by clear hS5 hS'; go_simp)⟩) hS5 ?_
      simp only [Act.put, List.setIfInBounds_toArray, List.set_cons_zero, List.set_cons_succ]
      refine walkS_take (i := 9) (oi := ⟨some 41, _, _, _, _, _⟩) (v := .int .i64 0) rfl (by kernel_rfl) (by kernel_rfl) (fun _ _ _ h => h) _ _ _ _ (by kernel_rfl) (by kernel_rfl) (Or.inl ⟨by rfl, fun w' hS' => (by clear hS5 hS'; go_simp)⟩) hS5 ?_
      simp only [Act.put, List.setIfInBounds_toArray, List.set_cons_zero, List.set_cons_succ]
      refine walkS_take (i := 10) (oi := ⟨some 12, _, _, _, _, _⟩) (v := u2) rfl (by kernel_rfl) (by kernel_rfl) (fun _ _ _ h => h) _ _ _ _ (by kernel_rfl) (by kernel_rfl) (Or.inl ⟨by rfl, fun w' hS' => (by clear hS5 hS'; go_simp)⟩) hS5 ?_
      simp only [Act.put, List.setIfInBounds_toArray, List.set_cons_zero, List.set_cons_succ]
      refine walkS_take (i := 11) (oi := ⟨some 13, _, _, _, _, _⟩) (v := .int .i64 0) rfl (by kernel_rfl) (by kernel_rfl) (fun _ _ _ h => h) _ _ _ _ (by kernel_rfl) (by kernel_rfl) (Or.inl ⟨by rfl, fun w' hS' => (by clear hS5 hS'; go_simp)⟩) hS5 ?_
      simp only [Act.put, List.setIfInBounds_toArray, List.set_cons_zero, List.set_cons_succ]
      refine walkS_done (by kernel_rfl) ?_ _
      have hlen : ((mid.length : Int) != (text.length : Int)) = false := by rw [HL.out]; simp
      have hm64 : (64 : Int) ≤ (mid.length : Int) := by rw [HL.out]; omega
      have hcut := HU4.out.cut 64 (by rw [HL.out]; omega)
      by_cases hc : c1 = 64
      · rw [if_pos hc, show c1 - 64 = 0 by omega] at hcut
        have HC := Lib.hid hcut
        clear hcut
        go_wp2_with fail
        refine (same_yes _ _ _ (mid.drop 64) HC.out HU5.out).mono ?_
        rintro e w6 ⟨rfl, b6⟩
        have B6 := Lib.hid (below_size B5.out b6)
        clear b6
        go_wp2
        go_ret
        exact ⟨rfl, B6.out⟩
      · rw [if_neg hc] at hcut
        have HC := Lib.hid hcut
        clear hcut
        go_wp2_with fail
        refine (same_yes _ _ _ (mid.drop 64) HC.out HU5.out).mono ?_
        rintro e w6 ⟨rfl, b6⟩
        have B6 := Lib.hid (below_size B5.out b6)
        clear b6
        go_wp2
        go_ret
        exact ⟨rfl, B6.out⟩
end Go.Proofs.YtplaoofclgpeeaaDoor
