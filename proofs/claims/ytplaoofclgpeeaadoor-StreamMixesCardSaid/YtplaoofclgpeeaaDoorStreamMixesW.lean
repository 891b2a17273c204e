/-
  The walk of StreamMixes. Conditions: what a row hands over.
-/
import Derived.Test.YtplaoofclgpeeaaDoorStreamU
import Derived.Test.YtplaoofclgpeeaaDoorStreamE
import Derived.Test.YtplaoofclgpeeaaDoorSame
namespace Go.Proofs.YtplaoofclgpeeaaDoor
open Go.RowKit
set_option linter.unusedVariables false
set_option maxRecDepth 20000

set_option maxHeartbeats 1000000 in
theorem mixes_between (w : World) (hq : Quar w) (key : List UInt8) (ctr : UInt32) (nonce : List UInt8) (v : Value) (text : List UInt8) (hb : Bs w v text) (h1 : 400 < text.length) (h2 : text.length ≤ 4000) :
    Calls Tryd.prog 4 #[keyV key, .int .u32 (ctr.toNat : Int), keyV nonce, v] w (RetV w (.bool true)) := by
  have HQ := Lib.hid hq
  obtain ⟨A, c, rfl, l1, l2, l3⟩ := hb
  unfold maxLen at l2
  clear l3 hq
  have d1 : decide ((400 : Int) < (text.length : Int)) = true := by simp; omega
  have d2 : decide ((text.length : Int) ≤ (4000 : Int)) = true := by simp; omega
  go_enter Tryd.func4, Tryd.ntmps4
  go_wp2_with (first
    | ((with_reducible refine wpList_box_row (o := ⟨some 4, _, _, _, _, _⟩) rfl 26 (.tmp 0) rfl (keyC key) (by with_unfolding_all rfl) ?_); intro g1 w1 n1)
    | ((with_reducible refine wpList_box_row (o := ⟨some 6, _, _, _, _, _⟩) rfl 27 (.tmp 2) rfl (keyC nonce) (by with_unfolding_all rfl) ?_); intro g2 w2 n2))
  have B2 := below_size n1.below n2.below
  refine (awake_true _ (HQ.out.below B2)).mono ?_
  rintro e w3 ⟨rfl, b3⟩
  go_wp2
  go_ret
  exact ⟨rfl, below_size B2 b3⟩

set_option maxHeartbeats 4000000 in
theorem mixes_both (w : World) (hq : Quar w) (key : List UInt8) (hk : key.length = 32) (ctr : UInt32) (nonce : List UInt8) (hn : nonce.length = 12) (v : Value) (text : List UInt8) (hb : Bs w v text) (t1 t2 : Bool)
    (d1 : decide ((400 : Int) < (text.length : Int)) = t1) (d2 : decide ((text.length : Int) ≤ (4000 : Int)) = t2) (ht : (t1 = false ∧ t2 = true) ∨ (t1 = true ∧ t2 = false)) :
    Calls Tryd.prog 4 #[keyV key, .int .u32 (ctr.toNat : Int), keyV nonce, v] w (RetV w (.bool true)) := by
  have HQ := Lib.hid hq
  have HV := Lib.hid hb
  have HK := Lib.hid hk
  have HN := Lib.hid hn
  have M1 : Hid (∀ x, Quar x → ∀ u, Bs x u text → _) := fun x hq u hu => Mix_any x hq key nonce text ctr u hu HK.out HN.out
  have M2 : Hid (∀ x, ∀ u, Bs x u text → _) := fun x u hu => refMix_any x key nonce text ctr u hu HK.out HN.out
  obtain ⟨A, c, rfl, l1, l2, l3⟩ := hb
  unfold maxLen at l2
  clear l3 hq hk hn
  generalize (if text.length ≤ 4000 then mixS key ctr nonce text else []) = ml at *
  generalize (if text.length ≤ 4000 then (0 : Int) else 2) = cd at *
  rcases ht with ⟨rfl, rfl⟩ | ⟨rfl, rfl⟩
  all_goals
    go_enter Tryd.func4, Tryd.ntmps4
    go_wp2_with (first
      | ((with_reducible refine wpList_box_row (o := ⟨some 4, _, _, _, _, _⟩) rfl 26 (.tmp 0) rfl (keyC key) (by with_unfolding_all rfl) ?_); intro g1 w1 n1)
      | ((with_reducible refine wpList_box_row (o := ⟨some 6, _, _, _, _, _⟩) rfl 27 (.tmp 2) rfl (keyC nonce) (by with_unfolding_all rfl) ?_); intro g2 w2 n2))
    have B2 := below_size n1.below n2.below
    refine (awake_true _ (HQ.out.below B2)).mono ?_
    rintro e w3 ⟨rfl, b3⟩
    have B3 := Lib.hid (below_size B2 b3)
    have R1 := Lib.hid ((n1.row.kept n2.below).kept b3)
    have R2 := Lib.hid (n2.row.kept b3)
    clear B2 n1 n2 b3
    go_wp2_with (first
      | (with_reducible refine wpList_load_row (o := ⟨some 25, _, _, _, _, _⟩) rfl 26 (.tmp 4) rfl g1 (by with_unfolding_all rfl) 26 (keyC key) (0, 0) (.array 32 5) (by with_unfolding_all exact R1.out) Tryd.underlying26 rfl (Tryd.sizeKey key HK.out) ?_)
      | (with_reducible refine wpList_load_row (o := ⟨some 27, _, _, _, _, _⟩) rfl 27 (.tmp 6) rfl g2 (by with_unfolding_all rfl) 27 (keyC nonce) (0, 0) (.array 12 5) (by with_unfolding_all exact R2.out) Tryd.underlying27 rfl (Tryd.sizeN nonce HN.out) ?_))
    refine (M1.out _ (HQ.out.below B3.out) _ (HV.out.below B3.out)).mono ?_
    rintro e w4 ⟨u, rfl, hu4, b4⟩
    have B4 := Lib.hid (below_size B3.out b4)
    have R14 := Lib.hid (R1.out.kept b4)
    have R24 := Lib.hid (R2.out.kept b4)
    have HU := Lib.hid hu4
    clear b4 R1 R2 B3 hu4
    go_wp2_with (first
      | (with_reducible refine wpList_load_row (o := ⟨some 33, _, _, _, _, _⟩) rfl 26 (.tmp 4) rfl g1 (by with_unfolding_all rfl) 26 (keyC key) (0, 0) (.array 32 5) (by with_unfolding_all exact R14.out) Tryd.underlying26 rfl (Tryd.sizeKey key HK.out) ?_)
      | (with_reducible refine wpList_load_row (o := ⟨some 35, _, _, _, _, _⟩) rfl 27 (.tmp 6) rfl g2 (by with_unfolding_all rfl) 27 (keyC nonce) (0, 0) (.array 12 5) (by with_unfolding_all exact R24.out) Tryd.underlying27 rfl (Tryd.sizeN nonce HN.out) ?_))
    refine (M2.out _ _ (HV.out.below B4.out)).mono ?_
    rintro e w5 ⟨u2, rfl, hu5, b5⟩
    have HU4 := Lib.hid (HU.out.below b5)
    have HU5 := Lib.hid hu5
    have B5 := Lib.hid (below_size B4.out b5)
    clear b5 hu5 HU R14 R24 B4
    have hcd : (cd == cd) = true := by simp
    go_wp2_with fail
    refine (same_yes _ _ _ ml HU4.out HU5.out).mono ?_
    rintro e w6 ⟨rfl, b6⟩
    have B6 := Lib.hid (below_size B5.out b6)
    clear b6 B5
    go_wp2
    go_ret
    exact ⟨rfl, B6.out⟩

theorem streamMixes_walk (w : World) (hq : Quar w) (key : List UInt8) (hk : key.length = 32) (ctr : UInt32) (nonce : List UInt8) (hn : nonce.length = 12) (v : Value) (text : List UInt8) (hb : Bs w v text) :
    Calls Tryd.prog 4 #[keyV key, .int .u32 (ctr.toNat : Int), keyV nonce, v] w (RetV w (.bool true)) := by
  by_cases h1 : 400 < text.length
  · by_cases h2 : text.length ≤ 4000
    · exact mixes_between w hq key ctr nonce v text hb h1 h2
    · exact mixes_both w hq key hk ctr nonce hn v text hb true false (by simp; omega) (by simp; omega) (.inr ⟨rfl, rfl⟩)
  · exact mixes_both w hq key hk ctr nonce hn v text hb false true (by simp; omega) (by simp; omega) (.inl ⟨rfl, rfl⟩)
end Go.Proofs.YtplaoofclgpeeaaDoor
