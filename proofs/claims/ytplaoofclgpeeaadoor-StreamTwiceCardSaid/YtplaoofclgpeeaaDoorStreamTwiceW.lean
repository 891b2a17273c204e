/-
  The walk of StreamTwice. Conditions: what a row hands over.
-/
import Derived.Test.YtplaoofclgpeeaaDoorStreamE
import Derived.Test.YtplaoofclgpeeaaDoorSame
namespace Go.Proofs.YtplaoofclgpeeaaDoor
open Go.RowKit
set_option linter.unusedVariables false
set_option maxRecDepth 20000

set_option maxHeartbeats 4000000 in
theorem streamTwice_walk (w : World) (hq : Quar w) (key : List UInt8) (hk : key.length = 32) (ctr : UInt32) (nonce : List UInt8) (hn : nonce.length = 12) (v : Value) (text : List UInt8) (hb : Bs w v text) :
    Calls Tryd.prog 5 #[keyV key, .int .u32 (ctr.toNat : Int), keyV nonce, v] w (RetV w (.bool true)) := by
  have HV := Lib.hid hb
  have HQ := Lib.hid hq
  have HK := Lib.hid hk
  have HN := Lib.hid hn
  obtain ⟨A, c, rfl, h1, h2, h3⟩ := hb
  unfold maxLen at h2
  clear h3 hq hk hn
  by_cases hl : 400 < text.length
  · have d1 : decide ((400 : Int) < (text.length : Int)) = true := by simp; omega
    go_enter Tryd.func5, Tryd.ntmps5
    go_wp2_with (first
      | ((with_reducible refine wpList_box_row (o := ⟨some 4, _, _, _, _, _⟩) rfl 26 (.tmp 0) rfl (keyC key) (by with_unfolding_all rfl) ?_); intro g1 w1 n1)
      | ((with_reducible refine wpList_box_row (o := ⟨some 6, _, _, _, _, _⟩) rfl 27 (.tmp 2) rfl (keyC nonce) (by with_unfolding_all rfl) ?_); intro g2 w2 n2))
    have B2 := below_size n1.below n2.below
    refine (awake_true _ (HQ.out.below B2)).mono ?_
    rintro e w3 ⟨rfl, b3⟩
    go_wp2
    go_ret
    exact ⟨rfl, below_size B2 b3⟩
  · have d1 : decide ((400 : Int) < (text.length : Int)) = false := by simp; omega
    have HL : Hid ((mixS key ctr nonce text).length = text.length) := mixS_length _ _ _ _
    have HT : Hid (mixS key ctr nonce (mixS key ctr nonce text) = text) := mixS_twice _ _ _ _
    have M1 : Hid (∀ x, Quar x → ∀ u, Bs x u text → _) := fun x hq u hu => Mix_ok x hq key nonce text ctr u hu HK.out HN.out (by omega)
    have M2 : Hid (∀ x, Quar x → ∀ u, Bs x u (mixS key ctr nonce text) → _) := fun x hq u hu => Mix_ok x hq key nonce (mixS key ctr nonce text) ctr u hu HK.out HN.out (by rw [HL.out]; omega)
    rw [HT.out] at M2
    generalize mixS key ctr nonce text = mid at *
    clear HT
    go_enter Tryd.func5, Tryd.ntmps5
    go_wp2_with (first
      | ((with_reducible refine wpList_box_row (o := ⟨some 4, _, _, _, _, _⟩) rfl 26 (.tmp 0) rfl (keyC key) (by with_unfolding_all rfl) ?_); intro g1 w1 n1)
      | ((with_reducible refine wpList_box_row (o := ⟨some 6, _, _, _, _, _⟩) rfl 27 (.tmp 2) rfl (keyC nonce) (by with_unfolding_all rfl) ?_); intro g2 w2 n2))
    have B2 := below_size n1.below n2.below
    refine (awake_true _ (HQ.out.below B2)).mono ?_
    rintro e w3 ⟨rfl, b3⟩
    have B3 := Lib.hid (below_size B2 b3)
    have R1 := Lib.hid ((n1.row.kept n2.below).kept b3)
    have R2 := Lib.hid (n2.row.kept b3)
    clear B2 n1 n2 b3
    go_wp2_with (first
      | (with_reducible refine wpList_load_row (o := ⟨some 20, _, _, _, _, _⟩) rfl 26 (.tmp 4) rfl g1 (by with_unfolding_all rfl) 26 (keyC key) (0, 0) (.array 32 5) (by with_unfolding_all exact R1.out) Tryd.underlying26 rfl (Tryd.sizeKey key HK.out) ?_)
      | (with_reducible refine wpList_load_row (o := ⟨some 22, _, _, _, _, _⟩) rfl 27 (.tmp 6) rfl g2 (by with_unfolding_all rfl) 27 (keyC nonce) (0, 0) (.array 12 5) (by with_unfolding_all exact R2.out) Tryd.underlying27 rfl (Tryd.sizeN nonce HN.out) ?_))
    refine (M1.out _ (HQ.out.below B3.out) _ (HV.out.below B3.out)).mono ?_
    rintro e w4 ⟨u, rfl, hu4, b4⟩
    have B4 := Lib.hid (below_size B3.out b4)
    have R14 := Lib.hid (R1.out.kept b4)
    have R24 := Lib.hid (R2.out.kept b4)
    have HU := Lib.hid hu4
    obtain ⟨A1, c1, rfl, _, _, _⟩ := hu4
    clear b4 R1 R2 B3
    go_wp2_with (first
      | (with_reducible refine wpList_load_row (o := ⟨some 28, _, _, _, _, _⟩) rfl 26 (.tmp 4) rfl g1 (by with_unfolding_all rfl) 26 (keyC key) (0, 0) (.array 32 5) (by with_unfolding_all exact R14.out) Tryd.underlying26 rfl (Tryd.sizeKey key HK.out) ?_)
      | (with_reducible refine wpList_load_row (o := ⟨some 30, _, _, _, _, _⟩) rfl 27 (.tmp 6) rfl g2 (by with_unfolding_all rfl) 27 (keyC nonce) (0, 0) (.array 12 5) (by with_unfolding_all exact R24.out) Tryd.underlying27 rfl (Tryd.sizeN nonce HN.out) ?_))
    refine (M2.out _ (HQ.out.below B4.out) _ HU.out).mono ?_
    rintro e w5 ⟨u2, rfl, hu5, b5⟩
    have B5 := Lib.hid (below_size B4.out b5)
    have HU5 := Lib.hid hu5
    have hlen : ((mid.length : Int) == (text.length : Int)) = true := by rw [HL.out]; simp
    clear b5 hu5 R14 R24 B4
    go_wp2_with fail
    refine (same_yes _ _ _ text HU5.out (HV.out.below B5.out)).mono ?_
    rintro e w6 ⟨rfl, b6⟩
    have B6 := Lib.hid (below_size B5.out b6)
    clear b6 B5
    go_wp2
    go_ret
    exact ⟨rfl, B6.out⟩
end Go.Proofs.YtplaoofclgpeeaaDoor
