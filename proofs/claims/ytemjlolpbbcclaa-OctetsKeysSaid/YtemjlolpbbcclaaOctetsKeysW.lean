/-
  The walk of OctetsKeys. Conditions: what a row hands over.
-/
import Derived.Test.YtemjlolpbbcclaaAwake
import Derived.Test.YtemjlolpbbcclaaJ
import Derived.Test.YtemjlolpbbcclaaKeyEq
import Derived.Test.YtemjlolpbbcclaaOctetsTwiceW
namespace Go.Proofs.Ytemjlolpbbcclaa
open Go.RowKit
set_option linter.unusedVariables false

set_option maxHeartbeats 4000000 in
theorem octetsKeys_walk (w : World) (v : Value) (l : List UInt8) (hb : Bs w v l) (s : Int) (hs : -9223372036854775808 ≤ s ∧ s ≤ 9223372036854775807) :
    Calls Try.prog 9 #[v, .int .i64 s] w (RetV w (.bool true)) := by
  have HV := Lib.hid hb
  obtain ⟨A, c, rfl, h1, h2, h3⟩ := hb
  unfold maxLen at h2
  clear h3
  by_cases hl : 100 < l.length
  · have d1 : decide ((100 : Int) < (l.length : Int)) = true := by simp; omega
    go_enter Try.func9, Try.ntmps9
    go_wp2_with fail
    refine (awake_true _).mono ?_
    rintro e w1 ⟨rfl, b1⟩
    go_wp2
    go_ret
    exact ⟨rfl, b1⟩
  · have d1 : decide ((100 : Int) < (l.length : Int)) = false := by simp; omega
    by_cases hs0 : s < 0
    · have d2 : decide (s < 0) = true := by simp; omega
      go_enter Try.func9, Try.ntmps9
      go_wp2_with fail
      refine (awake_true _).mono ?_
      rintro e w1 ⟨rfl, b1⟩
      go_wp2
      go_ret
      exact ⟨rfl, b1⟩
    · have d2 : decide (s < 0) = false := by simp; omega
      by_cases hs1 : (l.length : Int) < s
      · have d3 : decide ((l.length : Int) < s) = true := by simp; omega
        go_enter Try.func9, Try.ntmps9
        go_wp2_with fail
        refine (awake_true _).mono ?_
        rintro e w1 ⟨rfl, b1⟩
        go_wp2
        go_ret
        exact ⟨rfl, b1⟩
      · obtain ⟨k, rfl⟩ := Int.eq_ofNat_of_zero_le (a := s) (by omega)
        have hk : k ≤ l.length := by omega
        have d2' : decide ((k : Int) < 0) = false := by simp
        have d3 : decide ((l.length : Int) < (k : Int)) = false := by simp; omega
        have d3' : decide (l.length < k) = false := by simp; omega
        have hkc : k ≤ c := by omega
        have hkc2 : (k : Int) ≤ (c : Int) := by omega
        have hk2 : (k : Int) ≤ (l.length : Int) := by omega
        have hk0 : (0 : Int) ≤ (k : Int) := by omega
        have HJ : Hid (∀ w' v', Bss w' v' [l.take k, l.drop k] → Calls Try.prog 25 #[v'] w' (RetBs w' l)) := by
          intro w' v' h
          have hf : [l.take k, l.drop k].flatten = l := by simp
          have := Join_any w' v' [l.take k, l.drop k] h (by rw [hf]; omega) (by simp)
          rwa [hf] at this
        clear hs0 hs1
        by_cases h32 : l.length = 32
        · have HL := Lib.hid h32
          have e32 : ((l.length : Int) == 32) = true := by rw [beq_iff_eq]; omega
          clear h32
          by_cases hck : c = k
          · obtain rfl := hck
            go_enter Try.func9, Try.ntmps9
            go_wp2_with fail
            refine (awake_true _).mono ?_
            rintro e w1 ⟨rfl, b1⟩
            go_wp2
            have hj1 := (HV.out.below b1).take c hk
            have hj2 := (HV.out.below b1).cut c hk
            simp only [if_true, Nat.sub_self] at hj2
            rw [show l.length - c = 0 by omega] at hj2
            go_region_with (go_at_call 25; refine (HJ.out _ _ (Bss.two _ _ _ _ _ _ hj1 hj2).drew).mono ?_; rintro e w2 ⟨vj, rfl, hj, b2'⟩)
            have b2 := below_size (b1.alloc b1.size _).drew b2'
            have hv2 := HV.out.below b2
            clear b1 b2' hj1 hj2
            go_wp2_with fail
            refine (ToKey_full _ _ l hv2 HL.out).mono ?_
            rintro e w3 ⟨rfl, b3'⟩
            have b3 := below_size b2 b3'
            have hj3 := hj.below b3'
            clear b2 b3' hj hv2
            go_wp2_with (first | ((with_reducible refine wpList_alloc_row (o := ⟨some 7, _, _, _, _, _⟩) rfl 32 rfl (keyC zeroKey) Try.zeroK ?_); intro g4 w4 n4) | ((with_reducible refine wpList_store_row rfl 32 (.tmp 7) (.tmp 35) rfl g4 32 (keyC zeroKey) (keyC l) (by with_unfolding_all rfl) (by with_unfolding_all rfl) n4.row (keyC_same zeroKey_length HL.out) (Try.sizeKey _ HL.out) (keyC_one _) ?_); intro w5 p5; have b5' := p5.below n4.below n4.below.size (Nat.le_of_eq n4.spot.symm); have b5 := below_size b3 b5'; have hj5 := hj3.below b5'; have hv5 := HV.out.below b5) | (go_at_call 15; refine (refSame_yes _ _ _ l hj5 hv5).mono ?_; rintro e w6 ⟨rfl, b6'⟩; have b6 := below_size b5 b6'; have hr6 := p5.row.kept b6'; have hv6 := HV.out.below b6; clear hj5) | (with_reducible refine wpListG_load_row 32 (.tmp 7) rfl (by with_unfolding_all rfl) g4 (by with_unfolding_all rfl) 32 (keyC l) (.array 32 5) hr6 Try.underlying32 rfl (Try.sizeKey _ HL.out) ?_) | fail)
            refine (refBytes_any _ l HL.out).mono ?_
            rintro e w7 ⟨vk, rfl, hk7, b7'⟩
            have b7 := below_size b6 b7'
            have hv7 := HV.out.below b7
            go_wp2_with fail
            refine (refSame_yes _ _ _ l hk7 hv7).mono ?_
            rintro e w8 ⟨rfl, b8'⟩
            have b8 := below_size b7 b8'
            go_wp2
            go_ret
            exact ⟨rfl, b8⟩
          · skip
            go_enter Try.func9, Try.ntmps9
            go_wp2_with fail
            refine (awake_true _).mono ?_
            rintro e w1 ⟨rfl, b1⟩
            go_wp2
            have hj1 := (HV.out.below b1).take k hk
            have hj2 := (HV.out.below b1).cut k hk
            rw [if_neg hck] at hj2
            go_region_with (go_at_call 25; refine (HJ.out _ _ (Bss.two _ _ _ _ _ _ hj1 hj2).drew).mono ?_; rintro e w2 ⟨vj, rfl, hj, b2'⟩)
            have b2 := below_size (b1.alloc b1.size _).drew b2'
            have hv2 := HV.out.below b2
            clear b1 b2' hj1 hj2
            go_wp2_with fail
            refine (ToKey_full _ _ l hv2 HL.out).mono ?_
            rintro e w3 ⟨rfl, b3'⟩
            have b3 := below_size b2 b3'
            have hj3 := hj.below b3'
            clear b2 b3' hj hv2
            go_wp2_with (first | ((with_reducible refine wpList_alloc_row (o := ⟨some 7, _, _, _, _, _⟩) rfl 32 rfl (keyC zeroKey) Try.zeroK ?_); intro g4 w4 n4) | ((with_reducible refine wpList_store_row rfl 32 (.tmp 7) (.tmp 35) rfl g4 32 (keyC zeroKey) (keyC l) (by with_unfolding_all rfl) (by with_unfolding_all rfl) n4.row (keyC_same zeroKey_length HL.out) (Try.sizeKey _ HL.out) (keyC_one _) ?_); intro w5 p5; have b5' := p5.below n4.below n4.below.size (Nat.le_of_eq n4.spot.symm); have b5 := below_size b3 b5'; have hj5 := hj3.below b5'; have hv5 := HV.out.below b5) | (go_at_call 15; refine (refSame_yes _ _ _ l hj5 hv5).mono ?_; rintro e w6 ⟨rfl, b6'⟩; have b6 := below_size b5 b6'; have hr6 := p5.row.kept b6'; have hv6 := HV.out.below b6; clear hj5) | (with_reducible refine wpListG_load_row 32 (.tmp 7) rfl (by with_unfolding_all rfl) g4 (by with_unfolding_all rfl) 32 (keyC l) (.array 32 5) hr6 Try.underlying32 rfl (Try.sizeKey _ HL.out) ?_) | fail)
            refine (refBytes_any _ l HL.out).mono ?_
            rintro e w7 ⟨vk, rfl, hk7, b7'⟩
            have b7 := below_size b6 b7'
            have hv7 := HV.out.below b7
            go_wp2_with fail
            refine (refSame_yes _ _ _ l hk7 hv7).mono ?_
            rintro e w8 ⟨rfl, b8'⟩
            have b8 := below_size b7 b8'
            go_wp2
            go_ret
            exact ⟨rfl, b8⟩
        · have e32 : ((l.length : Int) == 32) = false := by rw [beq_eq_false_iff_ne]; omega
          rcases Nat.lt_or_gt_of_ne h32 with hsh | hlo
          · skip
            by_cases hck : c = k
            · obtain rfl := hck
              have heq := Try.eqZeroIn
              have hgd := Try.eqGuardKey
              go_enter Try.func9, Try.ntmps9
              go_wp2_with fail
              refine (awake_true _).mono ?_
              rintro e w1 ⟨rfl, b1⟩
              go_wp2
              have hj1 := (HV.out.below b1).take c hk
              have hj2 := (HV.out.below b1).cut c hk
              simp only [if_true, Nat.sub_self] at hj2
              rw [show l.length - c = 0 by omega] at hj2
              go_region_with (go_at_call 25; refine (HJ.out _ _ (Bss.two _ _ _ _ _ _ hj1 hj2).drew).mono ?_; rintro e w2 ⟨vj, rfl, hj, b2'⟩)
              have b2 := below_size (b1.alloc b1.size _).drew b2'
              have hv2 := HV.out.below b2
              clear b1 b2' hj1 hj2
              go_wp2_with fail
              refine (ToKey_short _ _ l hv2 hsh).mono ?_
              rintro e w3 ⟨rfl, b3'⟩
              have b3 := below_size b2 b3'
              have hj3 := hj.below b3'
              clear b2 b3' hj hv2
              go_wp2_with (first | ((with_reducible refine wpList_alloc_row (o := ⟨some 7, _, _, _, _, _⟩) rfl 32 rfl (keyC zeroKey) Try.zeroK ?_); intro g4 w4 n4) | ((with_reducible refine wpList_store_row rfl 32 (.tmp 7) (.tmp 35) rfl g4 32 (keyC zeroKey) (keyC zeroKey) (by with_unfolding_all rfl) (by with_unfolding_all rfl) n4.row (keyC_same zeroKey_length zeroKey_length) (Try.sizeKey _ zeroKey_length) (keyC_one _) ?_); intro w5 p5; have b5' := p5.below n4.below n4.below.size (Nat.le_of_eq n4.spot.symm); have b5 := below_size b3 b5'; have hj5 := hj3.below b5'; have hv5 := HV.out.below b5) | (go_at_call 15; refine (refSame_yes _ _ _ l hj5 hv5).mono ?_; rintro e w6 ⟨rfl, b6'⟩; have b6 := below_size b5 b6'; have hr6 := p5.row.kept b6'; have hv6 := HV.out.below b6; clear hj5) | (with_reducible refine wpListG_load_row 32 (.tmp 7) rfl (by with_unfolding_all rfl) g4 (by with_unfolding_all rfl) 32 (keyC zeroKey) (.array 32 5) hr6 Try.underlying32 rfl (Try.sizeKey _ zeroKey_length) ?_) | fail)
              go_ret
              exact ⟨rfl, b6⟩
            · skip
              have heq := Try.eqZeroIn
              have hgd := Try.eqGuardKey
              go_enter Try.func9, Try.ntmps9
              go_wp2_with fail
              refine (awake_true _).mono ?_
              rintro e w1 ⟨rfl, b1⟩
              go_wp2
              have hj1 := (HV.out.below b1).take k hk
              have hj2 := (HV.out.below b1).cut k hk
              rw [if_neg hck] at hj2
              go_region_with (go_at_call 25; refine (HJ.out _ _ (Bss.two _ _ _ _ _ _ hj1 hj2).drew).mono ?_; rintro e w2 ⟨vj, rfl, hj, b2'⟩)
              have b2 := below_size (b1.alloc b1.size _).drew b2'
              have hv2 := HV.out.below b2
              clear b1 b2' hj1 hj2
              go_wp2_with fail
              refine (ToKey_short _ _ l hv2 hsh).mono ?_
              rintro e w3 ⟨rfl, b3'⟩
              have b3 := below_size b2 b3'
              have hj3 := hj.below b3'
              clear b2 b3' hj hv2
              go_wp2_with (first | ((with_reducible refine wpList_alloc_row (o := ⟨some 7, _, _, _, _, _⟩) rfl 32 rfl (keyC zeroKey) Try.zeroK ?_); intro g4 w4 n4) | ((with_reducible refine wpList_store_row rfl 32 (.tmp 7) (.tmp 35) rfl g4 32 (keyC zeroKey) (keyC zeroKey) (by with_unfolding_all rfl) (by with_unfolding_all rfl) n4.row (keyC_same zeroKey_length zeroKey_length) (Try.sizeKey _ zeroKey_length) (keyC_one _) ?_); intro w5 p5; have b5' := p5.below n4.below n4.below.size (Nat.le_of_eq n4.spot.symm); have b5 := below_size b3 b5'; have hj5 := hj3.below b5'; have hv5 := HV.out.below b5) | (go_at_call 15; refine (refSame_yes _ _ _ l hj5 hv5).mono ?_; rintro e w6 ⟨rfl, b6'⟩; have b6 := below_size b5 b6'; have hr6 := p5.row.kept b6'; have hv6 := HV.out.below b6; clear hj5) | (with_reducible refine wpListG_load_row 32 (.tmp 7) rfl (by with_unfolding_all rfl) g4 (by with_unfolding_all rfl) 32 (keyC zeroKey) (.array 32 5) hr6 Try.underlying32 rfl (Try.sizeKey _ zeroKey_length) ?_) | fail)
              go_ret
              exact ⟨rfl, b6⟩
          · skip
            by_cases hck : c = k
            · obtain rfl := hck
              have heq := Try.eqZeroIn
              have hgd := Try.eqGuardKey
              go_enter Try.func9, Try.ntmps9
              go_wp2_with fail
              refine (awake_true _).mono ?_
              rintro e w1 ⟨rfl, b1⟩
              go_wp2
              have hj1 := (HV.out.below b1).take c hk
              have hj2 := (HV.out.below b1).cut c hk
              simp only [if_true, Nat.sub_self] at hj2
              rw [show l.length - c = 0 by omega] at hj2
              go_region_with (go_at_call 25; refine (HJ.out _ _ (Bss.two _ _ _ _ _ _ hj1 hj2).drew).mono ?_; rintro e w2 ⟨vj, rfl, hj, b2'⟩)
              have b2 := below_size (b1.alloc b1.size _).drew b2'
              have hv2 := HV.out.below b2
              clear b1 b2' hj1 hj2
              go_wp2_with fail
              refine (ToKey_long _ _ l hv2 hlo).mono ?_
              rintro e w3 ⟨rfl, b3'⟩
              have b3 := below_size b2 b3'
              have hj3 := hj.below b3'
              clear b2 b3' hj hv2
              go_wp2_with (first | ((with_reducible refine wpList_alloc_row (o := ⟨some 7, _, _, _, _, _⟩) rfl 32 rfl (keyC zeroKey) Try.zeroK ?_); intro g4 w4 n4) | ((with_reducible refine wpList_store_row rfl 32 (.tmp 7) (.tmp 35) rfl g4 32 (keyC zeroKey) (keyC zeroKey) (by with_unfolding_all rfl) (by with_unfolding_all rfl) n4.row (keyC_same zeroKey_length zeroKey_length) (Try.sizeKey _ zeroKey_length) (keyC_one _) ?_); intro w5 p5; have b5' := p5.below n4.below n4.below.size (Nat.le_of_eq n4.spot.symm); have b5 := below_size b3 b5'; have hj5 := hj3.below b5'; have hv5 := HV.out.below b5) | (go_at_call 15; refine (refSame_yes _ _ _ l hj5 hv5).mono ?_; rintro e w6 ⟨rfl, b6'⟩; have b6 := below_size b5 b6'; have hr6 := p5.row.kept b6'; have hv6 := HV.out.below b6; clear hj5) | (with_reducible refine wpListG_load_row 32 (.tmp 7) rfl (by with_unfolding_all rfl) g4 (by with_unfolding_all rfl) 32 (keyC zeroKey) (.array 32 5) hr6 Try.underlying32 rfl (Try.sizeKey _ zeroKey_length) ?_) | fail)
              go_ret
              exact ⟨rfl, b6⟩
            · skip
              have heq := Try.eqZeroIn
              have hgd := Try.eqGuardKey
              go_enter Try.func9, Try.ntmps9
              go_wp2_with fail
              refine (awake_true _).mono ?_
              rintro e w1 ⟨rfl, b1⟩
              go_wp2
              have hj1 := (HV.out.below b1).take k hk
              have hj2 := (HV.out.below b1).cut k hk
              rw [if_neg hck] at hj2
              go_region_with (go_at_call 25; refine (HJ.out _ _ (Bss.two _ _ _ _ _ _ hj1 hj2).drew).mono ?_; rintro e w2 ⟨vj, rfl, hj, b2'⟩)
              have b2 := below_size (b1.alloc b1.size _).drew b2'
              have hv2 := HV.out.below b2
              clear b1 b2' hj1 hj2
              go_wp2_with fail
              refine (ToKey_long _ _ l hv2 hlo).mono ?_
              rintro e w3 ⟨rfl, b3'⟩
              have b3 := below_size b2 b3'
              have hj3 := hj.below b3'
              clear b2 b3' hj hv2
              go_wp2_with (first | ((with_reducible refine wpList_alloc_row (o := ⟨some 7, _, _, _, _, _⟩) rfl 32 rfl (keyC zeroKey) Try.zeroK ?_); intro g4 w4 n4) | ((with_reducible refine wpList_store_row rfl 32 (.tmp 7) (.tmp 35) rfl g4 32 (keyC zeroKey) (keyC zeroKey) (by with_unfolding_all rfl) (by with_unfolding_all rfl) n4.row (keyC_same zeroKey_length zeroKey_length) (Try.sizeKey _ zeroKey_length) (keyC_one _) ?_); intro w5 p5; have b5' := p5.below n4.below n4.below.size (Nat.le_of_eq n4.spot.symm); have b5 := below_size b3 b5'; have hj5 := hj3.below b5'; have hv5 := HV.out.below b5) | (go_at_call 15; refine (refSame_yes _ _ _ l hj5 hv5).mono ?_; rintro e w6 ⟨rfl, b6'⟩; have b6 := below_size b5 b6'; have hr6 := p5.row.kept b6'; have hv6 := HV.out.below b6; clear hj5) | (with_reducible refine wpListG_load_row 32 (.tmp 7) rfl (by with_unfolding_all rfl) g4 (by with_unfolding_all rfl) 32 (keyC zeroKey) (.array 32 5) hr6 Try.underlying32 rfl (Try.sizeKey _ zeroKey_length) ?_) | fail)
              go_ret
              exact ⟨rfl, b6⟩
end Go.Proofs.Ytemjlolpbbcclaa
