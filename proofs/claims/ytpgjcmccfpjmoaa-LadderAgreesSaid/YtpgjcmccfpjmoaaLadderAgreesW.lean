/-
  LadderAgrees, walked: the call returns true. Conditions: none beyond the law's own.
-/
import Derived.Test.YtpgjcmccfpjmoaaLadderM
namespace Go.Proofs.Ytpgjcmccfpjmoaa
open Go.RowKit
set_option linter.unusedVariables false
set_option maxRecDepth 20000

set_option maxHeartbeats 4000000 in
theorem ladderAgrees_walk (w : World) (i : List UInt8) (hi : i.length = 32) (j : List UInt8) (hj : j.length = 32) :
    Calls Try.prog 5 #[keyV i, keyV j] w (RetV w (.bool true)) := by
  have Li := Lib.hid hi
  clear hi
  have Lj := Lib.hid hj
  clear hj
  obtain ⟨pi, hpi⟩ : ∃ v, v = rawK i nineK := ⟨_, rfl⟩
  obtain ⟨pj, hpj⟩ : ∃ v, v = rawK j nineK := ⟨_, rfl⟩
  have Lpi : Hid (pi.length = 32) := by show _ = _; rw [hpi]; exact rawK_length _ _
  have Lpj : Hid (pj.length = 32) := by show _ = _; rw [hpj]; exact rawK_length _ _
  have Hpi := Lib.hid hpi
  have Hpj := Lib.hid hpj
  obtain ⟨ka, hka⟩ : ∃ v, v = rawK i pj := ⟨_, rfl⟩
  obtain ⟨kb, hkb⟩ : ∃ v, v = rawK j pi := ⟨_, rfl⟩
  have Lka : Hid (ka.length = 32) := by show _ = _; rw [hka]; exact rawK_length _ _
  have Lkb : Hid (kb.length = 32) := by show _ = _; rw [hkb]; exact rawK_length _ _
  have HSka : Hid (multK i pj = ka ∧ multE i pj = 0) := ⟨by rw [hka, hpj]; exact shared_K _ _, by rw [hpj]; exact shared_E _ _ Li.out Lj.out⟩
  have HSkb : Hid (multK j pi = kb ∧ multE j pi = 0) := ⟨by rw [hkb, hpi]; exact shared_K _ _, by rw [hpi]; exact shared_E _ _ Lj.out Li.out⟩
  have heq : (ka == kb) = true := by rw [beq_iff_eq, hka, hkb, hpi, hpj]; exact raw_swap _ _ _
  have hne : (ka == zeroKey) = false := by rw [beq_eq_false_iff_ne, hka, hpj]; exact shared_not _ _ Li.out Lj.out
  have HQ1 : Hid (∀ W, (Op.equalIn 10000 23 (.agg (keyC ka)) (.agg (keyC kb))).run Try.prog W = .ok true W) := fun W => by rw [Try.eqKeyIn ka kb Lka.out Lkb.out W, heq]
  have HQ2 : Hid (∀ W, (Op.equalIn 10000 23 (.agg (keyC ka)) (.agg #[.int .u8 0, .int .u8 0, .int .u8 0, .int .u8 0, .int .u8 0, .int .u8 0, .int .u8 0, .int .u8 0, .int .u8 0, .int .u8 0, .int .u8 0, .int .u8 0, .int .u8 0, .int .u8 0, .int .u8 0, .int .u8 0, .int .u8 0, .int .u8 0, .int .u8 0, .int .u8 0, .int .u8 0, .int .u8 0, .int .u8 0, .int .u8 0, .int .u8 0, .int .u8 0, .int .u8 0, .int .u8 0, .int .u8 0, .int .u8 0, .int .u8 0, .int .u8 0])).run Try.prog W = .ok false W) := fun W => by rw [zeroLit, Try.eqKeyIn ka zeroKey Lka.out zeroKey_length W, hne]
  clear heq hne hka hkb hpi hpj
  have C12 : Hid (∀ w, Calls Try.prog 9 #[] w (RetV w (.bool true))) := fun w => ladderAwake_any w
  have E0 := Lib.hid (Env.start w)
  go_enter Try.func5, Try.ntmps5
  go_wp2_with (first
    | ((with_reducible refine wpE_box (o := ⟨some 2, _, _, _, _, _⟩) rfl 23 (.tmp 0) rfl (keyC (i)) (by with_unfolding_all rfl) E0.out ?_); intro g1 w1 T1; have E1 := Lib.hid T1; clear T1)
    | ((with_reducible refine wpE_box (o := ⟨some 3, _, _, _, _, _⟩) rfl 23 (.tmp 1) rfl (keyC (j)) (by with_unfolding_all rfl) E1.out ?_); intro g2 w2 T2; have E2 := Lib.hid T2; clear T2))
  refine (C12.out _).mono ?_
  rintro e w3 ⟨rfl, b3⟩
  have E3 := Lib.hid (E2.out.call b3)
  clear b3 E2
  go_wp2_with (first
    | (with_reducible refine wpE_load (o := ⟨some 13, _, _, _, _, _⟩) rfl 23 (.tmp 2) rfl 1 g1 23 (keyC (i)) _ (by with_unfolding_all rfl) (by with_unfolding_all rfl) Try.underlying23 rfl (Try.sizeKey _ Li.out) E3.out ?_))
  refine (newPair_env w _ _ i Li.out E3.out).mono ?_
  rintro e w4 ⟨b14, rfl, T4⟩
  have E4 := Lib.hid T4
  clear T4 E3
  go_wp2_with (first
    | (with_reducible refine wpE_load (o := ⟨some 15, _, _, _, _, _⟩) rfl 23 (.tmp 3) rfl 1 g2 23 (keyC (j)) _ (by with_unfolding_all rfl) (by with_unfolding_all rfl) Try.underlying23 rfl (Try.sizeKey _ Lj.out) E4.out ?_))
  refine (newPair_env w _ _ j Lj.out E4.out).mono ?_
  rintro e w5 ⟨b16, rfl, T5⟩
  have E5 := Lib.hid T5
  clear T5 E4
  go_wp2_with fail
  have hcall := pairPublic_first w _ _ 0 b16 j zeroKey Lj.out zeroKey_length E5.out rfl
  rw [← Hpj.out] at hcall
  refine hcall.mono ?_
  clear hcall
  rintro e w6 ⟨rfl, T6⟩
  simp only [List.set_cons_zero] at T6
  have E6 := Lib.hid T6
  clear T6 E5
  go_wp2_with fail
  have hcall := pairShared_env w _ _ 1 b14 i zeroKey pj 0 0 Li.out Lpj.out E6.out rfl
  rw [HSka.out.1, HSka.out.2] at hcall
  refine hcall.mono ?_
  clear hcall
  rintro e w7 ⟨rfl, T7⟩
  have E7 := Lib.hid T7
  clear T7 E6
  go_wp2_with (first
    | ((with_reducible refine wpE_alloc (o := ⟨some 8, _, _, _, _, _⟩) rfl 23 rfl (keyC (zeroKey)) Try.zeroK E7.out ?_); intro g3 w8 T8; have E8 := Lib.hid T8; clear T8)
    | ((with_reducible refine wpE_store (o := ⟨none, _, _, _, _, _⟩) rfl 23 (.tmp 8) (.tmp 28) rfl 0 g3 23 (keyC (zeroKey)) (keyC (ka)) (by with_unfolding_all rfl) (by with_unfolding_all rfl) (by with_unfolding_all rfl) (keyC_same zeroKey_length Lka.out) (Try.sizeKey _ Lka.out) (keyC_one _) E8.out ?_); intro w9 T9; simp only [List.set_cons_zero] at T9; have E9 := Lib.hid T9; clear T9))
  have hcall := pairPublic_first w _ _ 2 b14 i zeroKey Li.out zeroKey_length E9.out rfl
  rw [← Hpi.out] at hcall
  refine hcall.mono ?_
  clear hcall
  rintro e w10 ⟨rfl, T10⟩
  simp only [List.set_cons_zero, List.set_cons_succ] at T10
  have E10 := Lib.hid T10
  clear T10 E9
  go_wp2_with fail
  have hcall := pairShared_env w _ _ 1 b16 j pj pi 1 0 Lj.out Lpi.out E10.out rfl
  rw [HSkb.out.1, HSkb.out.2] at hcall
  refine hcall.mono ?_
  clear hcall
  rintro e w11 ⟨rfl, T11⟩
  have E11 := Lib.hid T11
  clear T11 E10
  have hq1 := HQ1.out
  have hq2 := HQ2.out
  have hg := Try.eqGuardKey
  go_wp2_with (first
    | ((with_reducible refine wpE_alloc (o := ⟨some 10, _, _, _, _, _⟩) rfl 23 rfl (keyC (zeroKey)) Try.zeroK E11.out ?_); intro g4 w12 T12; have E12 := Lib.hid T12; clear T12)
    | ((with_reducible refine wpE_store (o := ⟨none, _, _, _, _, _⟩) rfl 23 (.tmp 10) (.tmp 35) rfl 0 g4 23 (keyC (zeroKey)) (keyC (kb)) (by with_unfolding_all rfl) (by with_unfolding_all rfl) (by with_unfolding_all rfl) (keyC_same zeroKey_length Lkb.out) (Try.sizeKey _ Lkb.out) (keyC_one _) E12.out ?_); intro w13 T13; simp only [List.set_cons_zero] at T13; have E13 := Lib.hid T13; clear T13)
    | (with_reducible refine wpListG_load_row (o := ⟨some 47, _, _, _, _, _⟩) 23 (.tmp 8) rfl (by with_unfolding_all rfl) g3 (by with_unfolding_all rfl) 23 (keyC (ka)) (.array 32 5) (by with_unfolding_all exact E13.out.row 1 rfl) Try.underlying23 rfl (Try.sizeKey _ Lka.out) ?_)
    | (with_reducible refine wpListG_load_row (o := ⟨some 48, _, _, _, _, _⟩) 23 (.tmp 10) rfl (by with_unfolding_all rfl) g4 (by with_unfolding_all rfl) 23 (keyC (kb)) (.array 32 5) (by with_unfolding_all exact E13.out.row 0 rfl) Try.underlying23 rfl (Try.sizeKey _ Lkb.out) ?_)
    | (with_reducible refine wpListG_load_row (o := ⟨some 52, _, _, _, _, _⟩) 23 (.tmp 8) rfl (by with_unfolding_all rfl) g3 (by with_unfolding_all rfl) 23 (keyC (ka)) (.array 32 5) (by with_unfolding_all exact E13.out.row 1 rfl) Try.underlying23 rfl (Try.sizeKey _ Lka.out) ?_))
  clear hq1 hq2 hg
  go_ret
  exact E13.out.ret _
end Go.Proofs.Ytpgjcmccfpjmoaa
