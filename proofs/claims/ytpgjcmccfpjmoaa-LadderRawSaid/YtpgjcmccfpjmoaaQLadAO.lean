/-
  Texts that belong together, merged: LadderRefC, Frame, Open, Once, LadderG, LadderH. Conditions: as each theorem names them.
-/
import Derived.Test.YtpgjcmccfpjmoaaQLadAH
import Derived.Test.YtpgjcmccfpjmoaaQLadAN
import Derived.Test.YtpgjcmccfpjmoaaQLadAA
import Derived.OpenShut
import Derived.Test.YtpgjcmccfpjmoaaQLadAE
import Derived.Lib.LaidTab
import Derived.Deep.DeepHandedRow
import Derived.Test.YtpgjcmccfpjmoaaChecked
import Derived.Tactics
import Derived.Tactics2
import Derived.Defers
import Derived.Laws.Pointers
import Derived.Laws.LoneSync
import Derived.RegionTactic
import Derived.RegionCalls
import Derived.ChangeAlike
section
namespace Go.Proofs.Ytpgjcmccfpjmoaa
open Go.RowKit
set_option linter.unusedVariables false
set_option maxRecDepth 20000

set_option maxHeartbeats 2000000 in
theorem refMult_any (s p : List UInt8) (hs : s.length = 32) (hp : p.length = 32) (w : World) : Calls Try.prog 13 #[.agg (keyC s), .agg (keyC p)] w (RetV w (.tuple #[.agg (keyC (multK s p)), .int .i64 (multE s p)])) := by
  have Ls := Lib.hid hs
  have Lp := Lib.hid hp
  by_cases hwh' : ofLowB p < pF
  · have hwh : decide (ofLowB p < pF) = true := by simp [hwh']
    by_cases hqq : rawK s p = zeroKey
    · have heq : (rawK s p == zeroKey) = true := by rw [hqq]; exact beq_self_eq_true _
      obtain ⟨v13, hv13⟩ : ∃ v, v = numK p := ⟨_, rfl⟩
      have bv13 : v13 < pF := by rw [hv13]; exact numK_lt _
      have C13 : Hid (∀ w, Calls Try.prog 27 #[.agg (keyC (p))] w (RetV w (.tuple #[.agg (natsC (digR 16 v13)), .bool true]))) := by rw [hv13]; exact fun w => by have h := refOf_any p hp w; rw [hwh] at h; exact h
      obtain ⟨k21, hk21⟩ : ∃ v, v = rawK s p := ⟨_, rfl⟩
      have Lk21 : Hid (k21.length = 32) := by show _ = _; rw [hk21]; exact rawK_length _ _
      have C21 : Hid (∀ w, Calls Try.prog 15 #[.agg (keyC (s)), .agg (keyC (p))] w (RetV w (.agg (keyC (k21))))) := by rw [hk21]; exact fun w => refRaw_any s p hs hp w
      have HQ : Hid (∀ W, (Op.equalIn 10000 23 (.agg (keyC k21)) (.agg (keyC zeroKey))).run Try.prog W = .ok true W) := fun W => by rw [Try.eqKeyIn k21 zeroKey Lk21.out zeroKey_length W]; exact congrArg (fun v => Result.ok v W) (by rw [hk21]; exact heq)
      have HR : Hid ((Value.tuple #[.agg (keyC (multK s p)), .int .i64 (multE s p)]) = .tuple #[.agg (keyC (zeroKey)), .int .i64 30]) := by show _ = _; unfold multK multE; rw [if_pos hwh', if_pos hwh', if_pos hqq, hqq]
      clear hv13 bv13 hk21
      have E0 := Lib.hid (Env.start w)
      go_enter Try.func13, Try.ntmps13
      go_wp2_with (first
        | ((with_reducible refine wpE_box (o := ⟨some 2, _, _, _, _, _⟩) rfl 23 (.tmp 0) rfl (keyC (s)) (by with_unfolding_all rfl) E0.out ?_); intro g1 w1 T1; have E1 := Lib.hid T1; clear T1)
        | ((with_reducible refine wpE_box (o := ⟨some 3, _, _, _, _, _⟩) rfl 23 (.tmp 1) rfl (keyC (p)) (by with_unfolding_all rfl) E1.out ?_); intro g2 w2 T2; have E2 := Lib.hid T2; clear T2)
        | ((with_reducible refine wpE_alloc (o := ⟨some 4, _, _, _, _, _⟩) rfl 23 rfl (keyC (zeroKey)) Try.zeroK E2.out ?_); intro g3 w3 T3; have E3 := Lib.hid T3; clear T3)
        | ((with_reducible refine wpE_alloc (o := ⟨some 6, _, _, _, _, _⟩) rfl 23 rfl (keyC (zeroKey)) Try.zeroK E3.out ?_); intro g4 w4 T4; have E4 := Lib.hid T4; clear T4)
        | ((with_reducible refine wpE_store (o := ⟨none, _, _, _, _, _⟩) rfl 23 (.tmp 6) (.tmp 10) rfl 0 g4 23 (keyC (zeroKey)) (keyC (zeroKey)) (by with_unfolding_all rfl) (by with_unfolding_all rfl) (by with_unfolding_all exact congrArg Value.agg zeroLit) (keyC_same zeroKey_length zeroKey_length) (Try.sizeKey _ zeroKey_length) (keyC_one _) E4.out ?_); intro w5 T5; simp only [List.set_cons_zero] at T5; have E5 := Lib.hid T5; clear T5)
        | (with_reducible refine wpE_load (o := ⟨some 12, _, _, _, _, _⟩) rfl 23 (.tmp 3) rfl 2 g2 23 (keyC (p)) _ (by with_unfolding_all rfl) (by with_unfolding_all rfl) Try.underlying23 rfl (Try.sizeKey _ Lp.out) E5.out ?_))
      refine (C13.out _).mono ?_
      rintro e w6 ⟨rfl, b6⟩
      have E6 := Lib.hid (E5.out.call b6)
      clear b6 E5
      go_wp2_with (first
        | ((with_reducible refine wpE_alloc (o := ⟨some 7, _, _, _, _, _⟩) rfl 51 rfl (natsC (zero16)) Try.zero16 E6.out ?_); intro g5 w7 T7; have E7 := Lib.hid T7; clear T7)
        | ((with_reducible refine wpE_store (o := ⟨none, _, _, _, _, _⟩) rfl 51 (.tmp 7) (.tmp 14) rfl 0 g5 51 (natsC (zero16)) (natsC (digR 16 v13)) (by with_unfolding_all rfl) (by with_unfolding_all rfl) (by with_unfolding_all rfl) (natsC_same zero16_length (digR_length 16 _)) (sizeN Try.sz16 _ (digR_length 16 _)) (natsC_one _) E7.out ?_); intro w8 T8; simp only [List.set_cons_zero] at T8; have E8 := Lib.hid T8; clear T8)
        | (with_reducible refine wpE_load (o := ⟨some 19, _, _, _, _, _⟩) rfl 23 (.tmp 2) rfl 4 g1 23 (keyC (s)) _ (by with_unfolding_all rfl) (by with_unfolding_all rfl) Try.underlying23 rfl (Try.sizeKey _ Ls.out) E8.out ?_)
        | (with_reducible refine wpE_load (o := ⟨some 20, _, _, _, _, _⟩) rfl 23 (.tmp 3) rfl 3 g2 23 (keyC (p)) _ (by with_unfolding_all rfl) (by with_unfolding_all rfl) Try.underlying23 rfl (Try.sizeKey _ Lp.out) E8.out ?_))
      refine (C21.out _).mono ?_
      rintro e w9 ⟨rfl, b9⟩
      have E9 := Lib.hid (E8.out.call b9)
      clear b9 E8
      have hq := HQ.out
      have hg := Try.eqGuardKey
      go_wp2_with (first
        | ((with_reducible refine wpE_alloc (o := ⟨some 9, _, _, _, _, _⟩) rfl 23 rfl (keyC (zeroKey)) Try.zeroK E9.out ?_); intro g6 w10 T10; have E10 := Lib.hid T10; clear T10)
        | ((with_reducible refine wpE_store (o := ⟨none, _, _, _, _, _⟩) rfl 23 (.tmp 9) (.tmp 21) rfl 0 g6 23 (keyC (zeroKey)) (keyC (k21)) (by with_unfolding_all rfl) (by with_unfolding_all rfl) (by with_unfolding_all rfl) (keyC_same zeroKey_length Lk21.out) (Try.sizeKey _ Lk21.out) (keyC_one _) E10.out ?_); intro w11 T11; simp only [List.set_cons_zero] at T11; have E11 := Lib.hid T11; clear T11)
        | (with_reducible refine wpE_load (o := ⟨some 22, _, _, _, _, _⟩) rfl 23 (.tmp 9) rfl 0 g6 23 (keyC (k21)) _ (by with_unfolding_all rfl) (by with_unfolding_all rfl) Try.underlying23 rfl (Try.sizeKey _ Lk21.out) E11.out ?_)
        | (with_reducible refine wpE_load (o := ⟨some 23, _, _, _, _, _⟩) rfl 23 (.tmp 6) rfl 2 g4 23 (keyC (zeroKey)) _ (by with_unfolding_all rfl) (by with_unfolding_all rfl) Try.underlying23 rfl (Try.sizeKey _ zeroKey_length) E11.out ?_)
        | (with_reducible refine wpE_load (o := ⟨some 25, _, _, _, _, _⟩) rfl 23 (.tmp 6) rfl 2 g4 23 (keyC (zeroKey)) _ (by with_unfolding_all rfl) (by with_unfolding_all rfl) Try.underlying23 rfl (Try.sizeKey _ zeroKey_length) E11.out ?_)
        | ((with_reducible refine wpE_store (o := ⟨none, _, _, _, _, _⟩) rfl 23 (.tmp 4) (.tmp 25) rfl 3 g3 23 (keyC (zeroKey)) (keyC (zeroKey)) (by with_unfolding_all rfl) (by with_unfolding_all rfl) (by with_unfolding_all exact congrArg Value.agg zeroLit) (keyC_same zeroKey_length zeroKey_length) (Try.sizeKey _ zeroKey_length) (keyC_one _) E11.out ?_); intro w12 T12; simp only [List.set_cons_zero, List.set_cons_succ] at T12; have E12 := Lib.hid T12; clear T12))
      clear hq hg
      refine bodyPost_ret (ret_row_tmp rfl _ g3 23 (keyC (zeroKey)) _ rfl (E12.out.row 3 rfl) Try.underlying23 rfl (Try.sizeKey _ zeroKey_length)) rfl ⟨?_, E12.out.below⟩
      rw [HR.out]
      rfl
    · have heq : (rawK s p == zeroKey) = false := by rw [beq_eq_false_iff_ne]; exact hqq
      obtain ⟨v13, hv13⟩ : ∃ v, v = numK p := ⟨_, rfl⟩
      have bv13 : v13 < pF := by rw [hv13]; exact numK_lt _
      have C13 : Hid (∀ w, Calls Try.prog 27 #[.agg (keyC (p))] w (RetV w (.tuple #[.agg (natsC (digR 16 v13)), .bool true]))) := by rw [hv13]; exact fun w => by have h := refOf_any p hp w; rw [hwh] at h; exact h
      obtain ⟨k21, hk21⟩ : ∃ v, v = rawK s p := ⟨_, rfl⟩
      have Lk21 : Hid (k21.length = 32) := by show _ = _; rw [hk21]; exact rawK_length _ _
      have C21 : Hid (∀ w, Calls Try.prog 15 #[.agg (keyC (s)), .agg (keyC (p))] w (RetV w (.agg (keyC (k21))))) := by rw [hk21]; exact fun w => refRaw_any s p hs hp w
      have HQ : Hid (∀ W, (Op.equalIn 10000 23 (.agg (keyC k21)) (.agg (keyC zeroKey))).run Try.prog W = .ok false W) := fun W => by rw [Try.eqKeyIn k21 zeroKey Lk21.out zeroKey_length W]; exact congrArg (fun v => Result.ok v W) (by rw [hk21]; exact heq)
      have HR : Hid ((Value.tuple #[.agg (keyC (multK s p)), .int .i64 (multE s p)]) = .tuple #[.agg (keyC (k21)), .int .i64 0]) := by show _ = _; unfold multK multE; rw [if_pos hwh', if_pos hwh', if_neg hqq, hk21]
      clear hv13 bv13 hk21
      have E0 := Lib.hid (Env.start w)
      go_enter Try.func13, Try.ntmps13
      go_wp2_with (first
        | ((with_reducible refine wpE_box (o := ⟨some 2, _, _, _, _, _⟩) rfl 23 (.tmp 0) rfl (keyC (s)) (by with_unfolding_all rfl) E0.out ?_); intro g1 w1 T1; have E1 := Lib.hid T1; clear T1)
        | ((with_reducible refine wpE_box (o := ⟨some 3, _, _, _, _, _⟩) rfl 23 (.tmp 1) rfl (keyC (p)) (by with_unfolding_all rfl) E1.out ?_); intro g2 w2 T2; have E2 := Lib.hid T2; clear T2)
        | ((with_reducible refine wpE_alloc (o := ⟨some 4, _, _, _, _, _⟩) rfl 23 rfl (keyC (zeroKey)) Try.zeroK E2.out ?_); intro g3 w3 T3; have E3 := Lib.hid T3; clear T3)
        | ((with_reducible refine wpE_alloc (o := ⟨some 6, _, _, _, _, _⟩) rfl 23 rfl (keyC (zeroKey)) Try.zeroK E3.out ?_); intro g4 w4 T4; have E4 := Lib.hid T4; clear T4)
        | ((with_reducible refine wpE_store (o := ⟨none, _, _, _, _, _⟩) rfl 23 (.tmp 6) (.tmp 10) rfl 0 g4 23 (keyC (zeroKey)) (keyC (zeroKey)) (by with_unfolding_all rfl) (by with_unfolding_all rfl) (by with_unfolding_all exact congrArg Value.agg zeroLit) (keyC_same zeroKey_length zeroKey_length) (Try.sizeKey _ zeroKey_length) (keyC_one _) E4.out ?_); intro w5 T5; simp only [List.set_cons_zero] at T5; have E5 := Lib.hid T5; clear T5)
        | (with_reducible refine wpE_load (o := ⟨some 12, _, _, _, _, _⟩) rfl 23 (.tmp 3) rfl 2 g2 23 (keyC (p)) _ (by with_unfolding_all rfl) (by with_unfolding_all rfl) Try.underlying23 rfl (Try.sizeKey _ Lp.out) E5.out ?_))
      refine (C13.out _).mono ?_
      rintro e w6 ⟨rfl, b6⟩
      have E6 := Lib.hid (E5.out.call b6)
      clear b6 E5
      go_wp2_with (first
        | ((with_reducible refine wpE_alloc (o := ⟨some 7, _, _, _, _, _⟩) rfl 51 rfl (natsC (zero16)) Try.zero16 E6.out ?_); intro g5 w7 T7; have E7 := Lib.hid T7; clear T7)
        | ((with_reducible refine wpE_store (o := ⟨none, _, _, _, _, _⟩) rfl 51 (.tmp 7) (.tmp 14) rfl 0 g5 51 (natsC (zero16)) (natsC (digR 16 v13)) (by with_unfolding_all rfl) (by with_unfolding_all rfl) (by with_unfolding_all rfl) (natsC_same zero16_length (digR_length 16 _)) (sizeN Try.sz16 _ (digR_length 16 _)) (natsC_one _) E7.out ?_); intro w8 T8; simp only [List.set_cons_zero] at T8; have E8 := Lib.hid T8; clear T8)
        | (with_reducible refine wpE_load (o := ⟨some 19, _, _, _, _, _⟩) rfl 23 (.tmp 2) rfl 4 g1 23 (keyC (s)) _ (by with_unfolding_all rfl) (by with_unfolding_all rfl) Try.underlying23 rfl (Try.sizeKey _ Ls.out) E8.out ?_)
        | (with_reducible refine wpE_load (o := ⟨some 20, _, _, _, _, _⟩) rfl 23 (.tmp 3) rfl 3 g2 23 (keyC (p)) _ (by with_unfolding_all rfl) (by with_unfolding_all rfl) Try.underlying23 rfl (Try.sizeKey _ Lp.out) E8.out ?_))
      refine (C21.out _).mono ?_
      rintro e w9 ⟨rfl, b9⟩
      have E9 := Lib.hid (E8.out.call b9)
      clear b9 E8
      have hq := HQ.out
      have hg := Try.eqGuardKey
      go_wp2_with (first
        | ((with_reducible refine wpE_alloc (o := ⟨some 9, _, _, _, _, _⟩) rfl 23 rfl (keyC (zeroKey)) Try.zeroK E9.out ?_); intro g6 w10 T10; have E10 := Lib.hid T10; clear T10)
        | ((with_reducible refine wpE_store (o := ⟨none, _, _, _, _, _⟩) rfl 23 (.tmp 9) (.tmp 21) rfl 0 g6 23 (keyC (zeroKey)) (keyC (k21)) (by with_unfolding_all rfl) (by with_unfolding_all rfl) (by with_unfolding_all rfl) (keyC_same zeroKey_length Lk21.out) (Try.sizeKey _ Lk21.out) (keyC_one _) E10.out ?_); intro w11 T11; simp only [List.set_cons_zero] at T11; have E11 := Lib.hid T11; clear T11)
        | (with_reducible refine wpE_load (o := ⟨some 22, _, _, _, _, _⟩) rfl 23 (.tmp 9) rfl 0 g6 23 (keyC (k21)) _ (by with_unfolding_all rfl) (by with_unfolding_all rfl) Try.underlying23 rfl (Try.sizeKey _ Lk21.out) E11.out ?_)
        | (with_reducible refine wpE_load (o := ⟨some 23, _, _, _, _, _⟩) rfl 23 (.tmp 6) rfl 2 g4 23 (keyC (zeroKey)) _ (by with_unfolding_all rfl) (by with_unfolding_all rfl) Try.underlying23 rfl (Try.sizeKey _ zeroKey_length) E11.out ?_)
        | (with_reducible refine wpE_load (o := ⟨some 26, _, _, _, _, _⟩) rfl 23 (.tmp 9) rfl 0 g6 23 (keyC (k21)) _ (by with_unfolding_all rfl) (by with_unfolding_all rfl) Try.underlying23 rfl (Try.sizeKey _ Lk21.out) E11.out ?_)
        | ((with_reducible refine wpE_store (o := ⟨none, _, _, _, _, _⟩) rfl 23 (.tmp 4) (.tmp 26) rfl 3 g3 23 (keyC (zeroKey)) (keyC (k21)) (by with_unfolding_all rfl) (by with_unfolding_all rfl) (by with_unfolding_all rfl) (keyC_same zeroKey_length Lk21.out) (Try.sizeKey _ Lk21.out) (keyC_one _) E11.out ?_); intro w12 T12; simp only [List.set_cons_zero, List.set_cons_succ] at T12; have E12 := Lib.hid T12; clear T12))
      clear hq hg
      refine bodyPost_ret (ret_row_tmp rfl _ g3 23 (keyC (k21)) _ rfl (E12.out.row 3 rfl) Try.underlying23 rfl (Try.sizeKey _ Lk21.out)) rfl ⟨?_, E12.out.below⟩
      rw [HR.out]
      rfl
  · have hwh : decide (ofLowB p < pF) = false := by simp [hwh']
    obtain ⟨v13, hv13⟩ : ∃ v, v = numK p := ⟨_, rfl⟩
    have bv13 : v13 < pF := by rw [hv13]; exact numK_lt _
    have C13 : Hid (∀ w, Calls Try.prog 27 #[.agg (keyC (p))] w (RetV w (.tuple #[.agg (natsC (digR 16 v13)), .bool false]))) := by rw [hv13]; exact fun w => by have h := refOf_any p hp w; rw [hwh] at h; exact h
    have HR : Hid ((Value.tuple #[.agg (keyC (multK s p)), .int .i64 (multE s p)]) = .tuple #[.agg (keyC (zeroKey)), .int .i64 30]) := by show _ = _; unfold multK multE; rw [if_neg hwh', if_neg hwh']
    clear hv13 bv13
    have E0 := Lib.hid (Env.start w)
    go_enter Try.func13, Try.ntmps13
    go_wp2_with (first
      | ((with_reducible refine wpE_box (o := ⟨some 2, _, _, _, _, _⟩) rfl 23 (.tmp 0) rfl (keyC (s)) (by with_unfolding_all rfl) E0.out ?_); intro g1 w1 T1; have E1 := Lib.hid T1; clear T1)
      | ((with_reducible refine wpE_box (o := ⟨some 3, _, _, _, _, _⟩) rfl 23 (.tmp 1) rfl (keyC (p)) (by with_unfolding_all rfl) E1.out ?_); intro g2 w2 T2; have E2 := Lib.hid T2; clear T2)
      | ((with_reducible refine wpE_alloc (o := ⟨some 4, _, _, _, _, _⟩) rfl 23 rfl (keyC (zeroKey)) Try.zeroK E2.out ?_); intro g3 w3 T3; have E3 := Lib.hid T3; clear T3)
      | ((with_reducible refine wpE_alloc (o := ⟨some 6, _, _, _, _, _⟩) rfl 23 rfl (keyC (zeroKey)) Try.zeroK E3.out ?_); intro g4 w4 T4; have E4 := Lib.hid T4; clear T4)
      | ((with_reducible refine wpE_store (o := ⟨none, _, _, _, _, _⟩) rfl 23 (.tmp 6) (.tmp 10) rfl 0 g4 23 (keyC (zeroKey)) (keyC (zeroKey)) (by with_unfolding_all rfl) (by with_unfolding_all rfl) (by with_unfolding_all exact congrArg Value.agg zeroLit) (keyC_same zeroKey_length zeroKey_length) (Try.sizeKey _ zeroKey_length) (keyC_one _) E4.out ?_); intro w5 T5; simp only [List.set_cons_zero] at T5; have E5 := Lib.hid T5; clear T5)
      | (with_reducible refine wpE_load (o := ⟨some 12, _, _, _, _, _⟩) rfl 23 (.tmp 3) rfl 2 g2 23 (keyC (p)) _ (by with_unfolding_all rfl) (by with_unfolding_all rfl) Try.underlying23 rfl (Try.sizeKey _ Lp.out) E5.out ?_))
    refine (C13.out _).mono ?_
    rintro e w6 ⟨rfl, b6⟩
    have E6 := Lib.hid (E5.out.call b6)
    clear b6 E5
    go_wp2_with (first
      | ((with_reducible refine wpE_alloc (o := ⟨some 7, _, _, _, _, _⟩) rfl 51 rfl (natsC (zero16)) Try.zero16 E6.out ?_); intro g5 w7 T7; have E7 := Lib.hid T7; clear T7)
      | ((with_reducible refine wpE_store (o := ⟨none, _, _, _, _, _⟩) rfl 51 (.tmp 7) (.tmp 14) rfl 0 g5 51 (natsC (zero16)) (natsC (digR 16 v13)) (by with_unfolding_all rfl) (by with_unfolding_all rfl) (by with_unfolding_all rfl) (natsC_same zero16_length (digR_length 16 _)) (sizeN Try.sz16 _ (digR_length 16 _)) (natsC_one _) E7.out ?_); intro w8 T8; simp only [List.set_cons_zero] at T8; have E8 := Lib.hid T8; clear T8)
      | (with_reducible refine wpE_load (o := ⟨some 18, _, _, _, _, _⟩) rfl 23 (.tmp 6) rfl 1 g4 23 (keyC (zeroKey)) _ (by with_unfolding_all rfl) (by with_unfolding_all rfl) Try.underlying23 rfl (Try.sizeKey _ zeroKey_length) E8.out ?_)
      | ((with_reducible refine wpE_store (o := ⟨none, _, _, _, _, _⟩) rfl 23 (.tmp 4) (.tmp 18) rfl 2 g3 23 (keyC (zeroKey)) (keyC (zeroKey)) (by with_unfolding_all rfl) (by with_unfolding_all rfl) (by with_unfolding_all exact congrArg Value.agg zeroLit) (keyC_same zeroKey_length zeroKey_length) (Try.sizeKey _ zeroKey_length) (keyC_one _) E8.out ?_); intro w9 T9; simp only [List.set_cons_zero, List.set_cons_succ] at T9; have E9 := Lib.hid T9; clear T9))
    refine bodyPost_ret (ret_row_tmp rfl _ g3 23 (keyC (zeroKey)) _ rfl (E9.out.row 2 rfl) Try.underlying23 rfl (Try.sizeKey _ zeroKey_length)) rfl ⟨?_, E9.out.below⟩
    rw [HR.out]
    rfl
set_option maxHeartbeats 2000000 in
theorem refPublic_any (s : List UInt8) (hs : s.length = 32) (w : World) : Calls Try.prog 20 #[.agg (keyC s)] w (RetV w (.agg (keyC (rawK s nineK)))) := by
  have Ls := Lib.hid hs
  obtain ⟨k5, hk5⟩ : ∃ v, v = rawK s nineK := ⟨_, rfl⟩
  have Lk5 : Hid (k5.length = 32) := by show _ = _; rw [hk5]; exact rawK_length _ _
  have C5 : Hid (∀ w, Calls Try.prog 15 #[.agg (keyC (s)), .agg #[.int .u8 9, .int .u8 0, .int .u8 0, .int .u8 0, .int .u8 0, .int .u8 0, .int .u8 0, .int .u8 0, .int .u8 0, .int .u8 0, .int .u8 0, .int .u8 0, .int .u8 0, .int .u8 0, .int .u8 0, .int .u8 0, .int .u8 0, .int .u8 0, .int .u8 0, .int .u8 0, .int .u8 0, .int .u8 0, .int .u8 0, .int .u8 0, .int .u8 0, .int .u8 0, .int .u8 0, .int .u8 0, .int .u8 0, .int .u8 0, .int .u8 0, .int .u8 0]] w (RetV w (.agg (keyC (k5))))) := by rw [hk5]; exact fun w => by have h := refRaw_any s nineK hs nineK_length w; rw [nineLit] at h; exact h
  have HR : Hid (keyC (rawK s nineK) = (keyC (k5))) := by show _ = _; rw [hk5]
  clear hk5
  have E0 := Lib.hid (Env.start w)
  go_enter Try.func20, Try.ntmps20
  go_wp2_with (first
    | ((with_reducible refine wpE_box (o := ⟨some 1, _, _, _, _, _⟩) rfl 23 (.tmp 0) rfl (keyC (s)) (by with_unfolding_all rfl) E0.out ?_); intro g1 w1 T1; have E1 := Lib.hid T1; clear T1)
    | ((with_reducible refine wpE_alloc (o := ⟨some 2, _, _, _, _, _⟩) rfl 23 rfl (keyC (zeroKey)) Try.zeroK E1.out ?_); intro g2 w2 T2; have E2 := Lib.hid T2; clear T2)
    | (with_reducible refine wpE_load (o := ⟨some 3, _, _, _, _, _⟩) rfl 23 (.tmp 1) rfl 1 g1 23 (keyC (s)) _ (by with_unfolding_all rfl) (by with_unfolding_all rfl) Try.underlying23 rfl (Try.sizeKey _ Ls.out) E2.out ?_))
  refine (C5.out _).mono ?_
  rintro e w3 ⟨rfl, b3⟩
  have E3 := Lib.hid (E2.out.call b3)
  clear b3 E2
  go_wp2_with (first
    | ((with_reducible refine wpE_store (o := ⟨none, _, _, _, _, _⟩) rfl 23 (.tmp 2) (.tmp 5) rfl 0 g2 23 (keyC (zeroKey)) (keyC (k5)) (by with_unfolding_all rfl) (by with_unfolding_all rfl) (by with_unfolding_all rfl) (keyC_same zeroKey_length Lk5.out) (Try.sizeKey _ Lk5.out) (keyC_one _) E3.out ?_); intro w4 T4; simp only [List.set_cons_zero] at T4; have E4 := Lib.hid T4; clear T4))
  refine bodyPost_ret (results_cell_row rfl _ _ g2 23 (keyC (k5)) (0, 0) _ rfl (E4.out.row 0 rfl) Try.underlying23 rfl (Try.sizeKey _ Lk5.out)) rfl ⟨?_, E4.out.below⟩
  rw [HR.out]
end Go.Proofs.Ytpgjcmccfpjmoaa
end
section
namespace Go.Proofs.Ytpgjcmccfpjmoaa
open Go.RowKit

theorem u8_of_wf {n : Int} (h : (Lit.int .u8 n).wf = true) : ((UInt8.ofNat n.toNat).toNat : Int) = n := by
  have hb := bounds_u8 h
  rw [UInt8.toNat_ofNat_of_lt' (by simp [UInt8.size]; omega)]
  omega
theorem u64_of_wf {n : Int} (h : (Lit.int .u64 n).wf = true) : ∃ k : Nat, n = (k : Int) ∧ k < 18446744073709551616 := by
  have hb := bounds_u64 h
  exact ⟨n.toNat, by omega, by omega⟩
theorem i64_of_wf {n : Int} (h : (Lit.int .i64 n).wf = true) : -9223372036854775808 ≤ n ∧ n ≤ 9223372036854775807 := by
  have hb := bounds_i64 h
  omega

theorem bs_of_ints {w : World} {x : Addr} {len cap : Nat} {zs : List Int} (hl : len ≤ cap) (hm : cap ≤ maxLen) (hz : zs.length = cap)
    (hcell : ∀ i, i < zs.length → w.cell? (x.add i) = some (.int .u8 (zs.getD i 0))) (hwz : ∀ n ∈ zs, (Lit.int .u8 n).wf = true) :
    ∃ l, Bs w (.slice (some x) len cap) l := by
  have hlen : ((zs.take len).map fun n => UInt8.ofNat n.toNat).length = len := by simp; omega
  refine ⟨(zs.take len).map fun n => UInt8.ofNat n.toNat, some x, cap, by rw [hlen], by rw [hlen]; exact hl, hm, fun h0 => ?_⟩
  rw [hlen] at h0
  obtain ⟨b, off, spot⟩ := x
  have hc := hcell 0 (by omega)
  have hspot : spot = none := by simpa [Addr.add] using World.cell?_spot hc
  subst hspot
  refine ⟨b, off, rfl, fun j hj => ?_⟩
  rw [hlen] at hj
  have hadd : (⟨b, off, none⟩ : Addr).add j = ⟨b, off + j, none⟩ := by unfold Addr.add; split <;> simp_all
  have hcj := hcell j (by omega)
  rw [hadd] at hcj
  rw [hcj]
  have hj2 : j < zs.length := by omega
  simp only [List.getElem_map, List.getElem_take, List.getD_eq_getElem?_getD, List.getElem?_eq_getElem hj2, Option.getD_some]
  rw [u8_of_wf (hwz _ (List.getElem_mem hj2))]
end Go.Proofs.Ytpgjcmccfpjmoaa
end
section
namespace Go.Proofs.Ytpgjcmccfpjmoaa
open Go.RowKit
set_option linter.unusedVariables false

theorem open_cells {H : Type} {enc : TypeId × Value → H} {P : Program} {W : World} {base b0 : Nat} {sp : Nat → Bool} {held : Bool} {t e : TypeId} {n : Nat} {k : IntKind} {v : Value} {d : DataW H} {ps : List MemPlace}
    (ht : P.underlying t = some (.array n e)) (he : P.underlying e = some (.int k)) (hce : P.cellsOf e = 1) (hval : Value.okWide P W .any b0 t v) (h : DataW.Trod enc P W base sp held t v d ps) :
    ∃ cs : Array Value, v = .agg cs ∧ cs.size = P.cellsOf t ∧ ∀ i, i < n → ∃ a, cs[i]? = some (.int k a) ∧ (Lit.int k a).wf = true := by
  obtain ⟨cs, rfl, hsz, _⟩ : ∃ cs, v = .agg cs ∧ cs.size = P.cellsOf t ∧ Row.okWide P W .any b0 t cs := by simpa [Value.okWide, ht] using hval
  obtain ⟨fuel, hf⟩ := h
  obtain ⟨xs, m, _, _, _, hl, hel⟩ := DataW.trod_array ht hf
  refine ⟨cs, rfl, hsz, fun i hi => ?_⟩
  have h1 := hel i hi
  rw [hce, List.getElem?_eq_getElem (by omega)] at h1
  obtain ⟨a, hc, _, hwf⟩ := DataW.trod_int he h1
  refine ⟨a, ?_, hwf⟩
  have := congrArg (·[0]?) hc
  simpa [List.getElem?_take, List.getElem?_drop, Value.cells] using this

theorem open_words {H : Type} {enc : TypeId × Value → H} {P : Program} {W : World} {base b0 : Nat} {sp : Nat → Bool} {held : Bool} {t e : TypeId} {n : Nat} {v : Value} {d : DataW H} {ps : List MemPlace}
    (ht : P.underlying t = some (.array n e)) (he : P.underlying e = some (.int .u32)) (hce : P.cellsOf e = 1) (hct : P.cellsOf t = n) (hval : Value.okWide P W .any b0 t v) (h : DataW.Trod enc P W base sp held t v d ps) :
    ∃ l : List UInt32, v = .agg (wordsC l) ∧ l.length = n := by
  obtain ⟨cs, rfl, hsz, hel⟩ := open_cells ht he hce hval h
  rw [hct] at hsz
  refine ⟨cs.toList.map fun v => match v with | .int _ a => UInt32.ofNat a.toNat | _ => 0, ?_, by simpa using hsz⟩
  congr 1
  apply Array.toList_inj.1
  simp only [wordsC, cellsW, List.map_map]
  apply List.ext_getElem (by simp)
  intro i h1 h2
  obtain ⟨a, hc, hwf⟩ := hel i (by simpa [hsz] using h1)
  have hb := bounds_u32 hwf
  have hci : cs.toList[i] = .int .u32 a := by
    have : cs[i]? = some cs.toList[i] := by simp [Array.getElem?_eq_getElem (show i < cs.size by simpa using h1)]
    rw [hc] at this
    injection this with this
    exact this.symm
  simp only [List.getElem_map, Function.comp_apply, hci]
  rw [UInt32.toNat_ofNat_of_lt' (by simp [UInt32.size]; omega)]
  congr 1
  omega
theorem open_key {H : Type} {enc : TypeId × Value → H} {P : Program} {W : World} {base b0 : Nat} {sp : Nat → Bool} {held : Bool} {t e : TypeId} {n : Nat} {v : Value} {d : DataW H} {ps : List MemPlace}
    (ht : P.underlying t = some (.array n e)) (he : P.underlying e = some (.int .u8)) (hce : P.cellsOf e = 1) (hct : P.cellsOf t = n) (hval : Value.okWide P W .any b0 t v) (h : DataW.Trod enc P W base sp held t v d ps) :
    ∃ l : List UInt8, v = keyV l ∧ l.length = n := by
  obtain ⟨cs, rfl, hsz, hel⟩ := open_cells ht he hce hval h
  rw [hct] at hsz
  refine ⟨cs.toList.map fun v => match v with | .int _ a => UInt8.ofNat a.toNat | _ => 0, ?_, by simpa using hsz⟩
  unfold keyV
  congr 1
  apply Array.toList_inj.1
  simp only [keyC, cellsB, List.map_map]
  apply List.ext_getElem (by simp)
  intro i h1 h2
  obtain ⟨a, hc, hwf⟩ := hel i (by simpa [hsz] using h1)
  have hb := bounds_u8 hwf
  have hci : cs.toList[i] = .int .u8 a := by
    have : cs[i]? = some cs.toList[i] := by simp [Array.getElem?_eq_getElem (show i < cs.size by simpa using h1)]
    rw [hc] at this
    injection this with this
    exact this.symm
  simp only [List.getElem_map, Function.comp_apply, hci]
  rw [UInt8.toNat_ofNat_of_lt' (by simp [UInt8.size]; omega)]
  congr 1
  omega
theorem u32_of_wf {n : Int} (h : (Lit.int .u32 n).wf = true) : ∃ c : UInt32, n = (c.toNat : Int) := by
  have hb := bounds_u32 h
  exact ⟨UInt32.ofNat n.toNat, by rw [UInt32.toNat_ofNat_of_lt' (by simp [UInt32.size]; omega)]; omega⟩

/-- Cut in pieces of m. -/
theorem chunked {α : Type} (m : Nat) : ∀ (rows : List (List α)) (cs : List α), cs.length = rows.length * m → (∀ i (h : i < rows.length), (cs.drop (i * m)).take m = rows[i]) → cs = rows.flatten := by
  intro rows
  induction rows with
  | nil =>
    intro cs hl _
    exact List.eq_nil_of_length_eq_zero (by simpa using hl)
  | cons r rows ih =>
    intro cs hl h
    have h0 := h 0 (by simp)
    simp only [Nat.zero_mul, List.drop_zero, List.getElem_cons_zero] at h0
    have hrest := ih (cs.drop m) (by rw [List.length_drop, hl, List.length_cons, Nat.succ_mul]; omega) (fun i hi => by
      have := h (i + 1) (by simpa using hi)
      rw [List.getElem_cons_succ] at this
      rw [← this, List.drop_drop, Nat.succ_mul, Nat.add_comm])
    rw [List.flatten_cons, ← h0, ← hrest, List.take_append_drop]
/-- A table of arrays reads as its rows. -/
theorem cells_of_rows {H : Type} {enc : TypeId × Value → H} {P : Program} {w : World} {base : Nat} {sp : Nat → Bool} {held : Bool} {fuel : Nat} {t e b : TypeId} {n m : Nat} {k : IntKind} {cs : List Value} {rows : List (List Int)} {p : List MemPlace}
    (ht : P.underlying t = some (.array n e)) (he : P.underlying e = some (.array m b)) (hb : P.underlying b = some (.int k)) (hcb : P.cellsOf b = 1) (hce : P.cellsOf e = m) (hct : P.cellsOf t = n * m) (hn : rows.length = n)
    (h : DataW.trod enc P w base sp held fuel t cs = some (.agg (rows.map fun zs => Lib.tabData k zs), p)) : cs = rows.flatten.map fun z => Value.int k z := by
  obtain ⟨xs, f, _, hx, hlen, hl, hel⟩ := DataW.trod_array ht h
  have hxs : xs.map (·.1) = rows.map fun zs => (Lib.tabData k zs : DataW H) := by
    have := congrArg Prod.fst hx
    simpa using this.symm
  have hflat := chunked m (rows.map fun zs => zs.map fun z => Value.int k z) cs (by simp [hlen, hct, hn]) (fun i hi => by
    have hi2 : i < rows.length := by simpa using hi
    have hi3 : i < xs.length := by omega
    have h1 := hel i (by omega)
    rw [hce, List.getElem?_eq_getElem hi3] at h1
    have h2 : xs[i].1 = Lib.tabData k rows[i] := by
      have := congrArg (·[i]?) hxs
      simpa [hi2, hi3] using this
    have h3 := Lib.cells_of_tab (zs := rows[i]) (p := xs[i].2) he hb hcb hce (by rw [h1, ← h2])
    rw [List.getElem_map, h3])
  rw [hflat]
  simp [List.map_flatten]
end Go.Proofs.Ytpgjcmccfpjmoaa
end
section
namespace Go.Proofs.Ytpgjcmccfpjmoaa
open Go.RowKit
set_option linter.unusedVariables false

theorem race_disable (w : World) : (callFunc 75 #[]).run Try.prog w = .ok (.value (.tuple #[])) w := run_call_mark0 Try.func75 (by kernel_rfl) (by kernel_rfl) (by kernel_rfl) .disable (by kernel_rfl) w
theorem race_enable (w : World) : (callFunc 77 #[]).run Try.prog w = .ok (.value (.tuple #[])) w := run_call_mark0 Try.func77 (by kernel_rfl) (by kernel_rfl) (by kernel_rfl) .enable (by kernel_rfl) w
theorem race_acquire (a : Addr) (w : World) : (callFunc 78 #[.pointer (some a)]).run Try.prog w = .ok (.value (.tuple #[])) w := run_call_marked Try.func78 (by kernel_rfl) (by kernel_rfl) (by kernel_rfl) .acquire (by kernel_rfl) a w
theorem race_release (a : Addr) (w : World) : (callFunc 80 #[.pointer (some a)]).run Try.prog w = .ok (.value (.tuple #[])) w := run_call_marked Try.func80 (by kernel_rfl) (by kernel_rfl) (by kernel_rfl) .releaseMerge (by kernel_rfl) a w

theorem once_store (a : Addr) (x : Value) (u : FrameMode) (w : World) (hc : w.cell? a = some x) (hz : w.frozen? a = false) :
    CallsD Try.prog 68 #[.pointer (some a), .bool true] u w fun e u' w' => u' = u ∧ (e = .returned (.tuple #[]) ∧ w' = w.drew.setCell a (.int .u32 1)) := by
  have hc' : w.drew.cell? a = some x := by go_simp
  have hz' : w.drew.frozen? a = false := by go_simp
  have hst := run_call_store (P := Try.prog) Try.func73 (by kernel_rfl) (by kernel_rfl) (by kernel_rfl) (by kernel_rfl) (k := .u32) (y := 1) hc' hz'
  go_enter_d Try.func68, Try.ntmps68
  go_wp2
  go_region_calls
  all_goals (go_end0; exact ⟨rfl, rfl⟩)

set_option maxRecDepth 100000 in
theorem once_unlock (a : Addr) (u : FrameMode) (w : World) (hc : w.cell? a = some (.int .i32 1)) (hz : w.frozen? a = false) :
    CallsD Try.prog 67 #[.pointer (some a)] u w fun e u' w' => u' = u ∧ (e = .returned (.tuple #[]) ∧ w' = w.setCell a (.int .i32 0)) := by
  have hd := race_disable
  have he := race_enable
  have hr := race_release
  have hadd := run_call_add (P := Try.prog) Try.func81 (by kernel_rfl) (by kernel_rfl) (by kernel_rfl) .i32 (by kernel_rfl) (y := -1) (s := 0) hc hz (by simp [go_sem]; rfl)
  have hcv := run_convert_to_unsafe (P := Try.prog) (src := 115) (dst := 119) Try.underlying115 Try.underlying119 (by kernel_rfl) hc
  go_enter_d Try.func67, Try.ntmps67
  go_wp2
  go_end0
  go_wp2
  go_end0
  exact ⟨rfl, rfl⟩

set_option maxRecDepth 100000 in
theorem once_lock (a : Addr) (w : World) (hc : w.cell? a = some (.int .i32 0)) (hz : w.frozen? a = false) :
    Calls Try.prog 66 #[.pointer (some a)] w fun e w' => e = .returned (.tuple #[]) ∧ w' = w.setCell a (.int .i32 1) := by
  have hd := race_disable
  have he := race_enable
  have ha := race_acquire
  have hcas := run_call_cas_hit (P := Try.prog) Try.func76 (by kernel_rfl) (by kernel_rfl) (by kernel_rfl) .i32 (by kernel_rfl) (y := 1) hc hz
  have hc' : (w.setCell a (.int .i32 1)).cell? a = some (.int .i32 1) := World.cell?_setCell_same w a _ hc
  have hcv := run_convert_to_unsafe (P := Try.prog) (src := 115) (dst := 119) Try.underlying115 Try.underlying119 (by kernel_rfl) hc'
  go_enter Try.func66, Try.ntmps66
  go_wp2
  first | go_end0 | (simp only [Exit.inBlock, Exit.then]; refine bodyPost_ret (results_none rfl _ _ _) rfl ?_) | refine bodyPost_ret (results_none rfl _ _ _) rfl ?_
  go_wp2
  go_end0
  exact ⟨rfl, rfl⟩

set_option maxRecDepth 100000 in
set_option maxHeartbeats 1600000 in
theorem once_slow (b off fn : Nat) (lb : Array Value) (hent : ∀ args w, (callFunc fn args).run Try.prog w = .ok (.enter fn args) w) (w : World)
    (h0 : w.cell? ⟨b, off, none⟩ = some (.int .u32 0)) (h1 : w.cell? ⟨b, off + 1, none⟩ = some (.int .i32 0)) (f0 : w.frozen? ⟨b, off, none⟩ = false) (f1 : w.frozen? ⟨b, off + 1, none⟩ = false)
    (G : World → Prop) (hf : Calls Try.prog fn lb (w.setCell ⟨b, off + 1, none⟩ (.int .i32 1)) fun e w' => e = .returned (.tuple #[]) ∧ G w')
    (hG : ∀ w', G w' → w'.cell? ⟨b, off, none⟩ = some (.int .u32 0) ∧ w'.frozen? ⟨b, off, none⟩ = false ∧ w'.cell? ⟨b, off + 1, none⟩ = some (.int .i32 1) ∧ w'.frozen? ⟨b, off + 1, none⟩ = false) :
    Calls Try.prog 50 #[.pointer (some ⟨b, off, none⟩), .func (.func fn) #[] lb] w fun e w' => e = .returned (.tuple #[]) ∧ ∃ x, G x ∧ w' = (x.drew.setCell ⟨b, off, none⟩ (.int .u32 1)).setCell ⟨b, off + 1, none⟩ (.int .i32 0) := by
  have hl := run_call_load (P := Try.prog) Try.func65 (by kernel_rfl) (by kernel_rfl) (by kernel_rfl) .u32 (by kernel_rfl) (w := w.setCell ⟨b, off + 1, none⟩ (.int .i32 1)) (a := ⟨b, off, none⟩) (x := 0) ((World.cell?_setCell_other _ ⟨b, off + 1, none⟩ ⟨b, off, none⟩ _ (by simp)).trans h0)
  have hnot : ∀ (x : Bool) (w : World), (Op.unary .not (.bool x)).run Try.prog w = .ok (.bool (!x)) w := fun _ _ => rfl
  have HF := Lib.hid hf
  have HG := Lib.hid hG
  clear hf hG
  go_enter_defers Try.func50, Try.ntmps50
  go_wp2_with (first
    | (go_at_call 66; refine (once_lock ⟨b, off + 1, none⟩ _ (by go_simp) (by go_simp)).mono ?_; rintro e w' ⟨rfl, rfl⟩)
    | (go_at_call 49; go_in))
  refine HF.out.mono ?_
  intro e x h
  obtain ⟨he, hg⟩ := h
  subst he
  obtain ⟨k0, z0, k1, z1⟩ := HG.out x hg
  have HGX := Lib.hid hg
  clear hg HG HF hl
  go_wp2
  refine leaves_cons (f := 68) (args := #[.pointer (some ⟨b, off, none⟩), .bool true]) (by simp) (by simp [go_sem]) ?_
  refine (once_store ⟨b, off, none⟩ (.int .u32 0) .returning _ k0 z0).mono ?_
  rintro e u' w'' ⟨rfl, rfl, rfl⟩
  refine leaves_cons (f := 67) (args := #[.pointer (some ⟨b, off + 1, none⟩)]) (by simp [settle]) (by simp [go_sem]) ?_
  refine (once_unlock ⟨b, off + 1, none⟩ _ _ ?_ (by simp [z1])).mono ?_
  · refine (World.cell?_setCell_other _ ⟨b, off, none⟩ ⟨b, off + 1, none⟩ _ (by simp)).trans ?_
    rw [World.cell?_drew]
    exact k1
  rintro e u' w'' ⟨rfl, rfl, rfl⟩
  simp [Leaves, settle, results, Try.results50]
  exact ⟨x, HGX.out, rfl⟩

/-- Do, the first time. -/
theorem once_first (b off fn : Nat) (lb : Array Value) (hent : ∀ args w, (callFunc fn args).run Try.prog w = .ok (.enter fn args) w) (w : World)
    (h0 : w.cell? ⟨b, off, none⟩ = some (.int .u32 0)) (h1 : w.cell? ⟨b, off + 1, none⟩ = some (.int .i32 0)) (f0 : w.frozen? ⟨b, off, none⟩ = false) (f1 : w.frozen? ⟨b, off + 1, none⟩ = false)
    (G : World → Prop) (hf : Calls Try.prog fn lb (w.setCell ⟨b, off + 1, none⟩ (.int .i32 1)) fun e w' => e = .returned (.tuple #[]) ∧ G w')
    (hG : ∀ w', G w' → w'.cell? ⟨b, off, none⟩ = some (.int .u32 0) ∧ w'.frozen? ⟨b, off, none⟩ = false ∧ w'.cell? ⟨b, off + 1, none⟩ = some (.int .i32 1) ∧ w'.frozen? ⟨b, off + 1, none⟩ = false) :
    Calls Try.prog 34 #[.pointer (some ⟨b, off, none⟩), .func (.func fn) #[] lb] w fun e w' => e = .returned (.tuple #[]) ∧ ∃ x, G x ∧ w' = (x.drew.setCell ⟨b, off, none⟩ (.int .u32 1)).setCell ⟨b, off + 1, none⟩ (.int .i32 0) := by
  have hl := run_call_load (P := Try.prog) Try.func65 (by kernel_rfl) (by kernel_rfl) (by kernel_rfl) .u32 (by kernel_rfl) h0
  have hnot : ∀ (x : Bool) (w : World), (Op.unary .not (.bool x)).run Try.prog w = .ok (.bool (!x)) w := fun _ _ => rfl
  have HS := Lib.hid (once_slow b off fn lb hent w h0 h1 f0 f1 G hf hG)
  clear hent h0 h1 f0 f1 hf hG
  go_enter Try.func34, Try.ntmps34
  go_wp2_with (first
    | (go_at_call 50; refine HS.out.mono ?_; rintro e w' ⟨rfl, hx⟩)
    | (go_at_call 49; go_in))
  go_end0
  exact ⟨rfl, hx⟩

/-- Do, done already. -/
theorem once_done (a : Addr) (fv : Value) (w : World) (h0 : w.cell? a = some (.int .u32 1)) :
    Calls Try.prog 34 #[.pointer (some a), fv] w fun e w' => e = .returned (.tuple #[]) ∧ w' = w := by
  have hl := run_call_load (P := Try.prog) Try.func65 (by kernel_rfl) (by kernel_rfl) (by kernel_rfl) .u32 (by kernel_rfl) h0
  have hnot : ∀ (x : Bool) (w : World), (Op.unary .not (.bool x)).run Try.prog w = .ok (.bool (!x)) w := fun _ _ => rfl
  go_enter Try.func34, Try.ntmps34
  go_wp2
  go_end0
  exact ⟨rfl, rfl⟩
end Go.Proofs.Ytpgjcmccfpjmoaa
end
section
namespace Go.Proofs.Ytpgjcmccfpjmoaa
open Go.RowKit
set_option linter.unusedVariables false
set_option maxRecDepth 20000

/-- A pair's cells: its secret; its Once; its public key. -/
def pairL (s : List UInt8) (d m : Int) (q : List UInt8) : List Value := cellsB s ++ ([.int .u32 d, .int .i32 m, .int .u32 0] ++ cellsB q)
def pairC (s : List UInt8) (d m : Int) (q : List UInt8) : Array Value := (pairL s d m q).toArray
section
variable (s q : List UInt8) (d m : Int) (ls : s.length = 32) (lq : q.length = 32)
theorem pairL_length (ls : s.length = 32) (lq : q.length = 32) : (pairL s d m q).length = 67 := by simp [pairL, cellsB_length, ls, lq]
theorem pairC_size (ls : s.length = 32) (lq : q.length = 32) : (pairC s d m q).size = 67 := by simp [pairC, pairL_length, ls, lq]
theorem pairC_32 (ls : s.length = 32) : (pairC s d m q)[32]? = some (.int .u32 d) := by
  simp only [pairC, pairL, List.getElem?_toArray]
  rw [List.getElem?_append_right (by rw [cellsB_length, ls]; omega), cellsB_length, ls]
  rfl
theorem pairC_33 (ls : s.length = 32) : (pairC s d m q)[33]? = some (.int .i32 m) := by
  simp only [pairC, pairL, List.getElem?_toArray]
  rw [List.getElem?_append_right (by rw [cellsB_length, ls]; omega), cellsB_length, ls]
  rfl
theorem pairC_set32 (ls : s.length = 32) (x : Int) : (pairC s d m q).setIfInBounds 32 (.int .u32 x) = pairC s x m q := by
  simp only [pairC, pairL, List.setIfInBounds_toArray]
  rw [List.set_append_right _ _ (by rw [cellsB_length, ls]; omega), cellsB_length, ls]
  rfl
theorem pairC_set33 (ls : s.length = 32) (x : Int) : (pairC s d m q).setIfInBounds 33 (.int .i32 x) = pairC s d x q := by
  simp only [pairC, pairL, List.setIfInBounds_toArray]
  rw [List.set_append_right _ _ (by rw [cellsB_length, ls]; omega), cellsB_length, ls]
  rfl
theorem pairC_secret (ls : s.length = 32) : ((pairC s d m q).toList.drop 0).take (cellsB s).length = cellsB s := by
  simp [pairC, pairL]
theorem pairC_public (ls : s.length = 32) : ((pairC s d m q).toList.drop 35).take (cellsB q).length = cellsB q := by
  have e : pairL s d m q = (cellsB s ++ [.int .u32 d, .int .i32 m, .int .u32 0]) ++ cellsB q := by simp [pairL]
  simp only [pairC]
  rw [e, List.drop_left' (by simp [cellsB_length, ls]), List.take_length]
theorem pairC_put (ls : s.length = 32) (lq : q.length = 32) (x : List UInt8) (lx : x.length = 32) : ((pairC s d m q).toList.take 35 ++ (keyC x).toList ++ (pairC s d m q).toList.drop (35 + (keyC x).size)).toArray = pairC s d m x := by
  have e : pairL s d m q = (cellsB s ++ [.int .u32 d, .int .i32 m, .int .u32 0]) ++ cellsB q := by simp [pairL]
  rw [keyC_size, lx]
  simp only [pairC, keyC]
  rw [e, List.take_left' (by simp [cellsB_length, ls]), List.drop_eq_nil_of_le (by simp [cellsB_length, ls, lq])]
  simp [pairL]
end
theorem Try.sizeKeyL (l : List UInt8) (h : l.length = 32) : (Try.prog.info? 23).map (·.size) = some (cellsB l).length := by
  have := Try.sizeKey l h
  rw [keyC_size] at this
  rw [cellsB_length]
  exact this
theorem run_part_key {P : Program} {w : World} {o : Oper} {a : Act} (ty : TypeId) (x : Operand) (ho : o.op = .load ty x) (g k : Nat) (hx : a.eval x = .pointer (some ⟨g, k, none⟩)) (t : TypeId) (cs : Array Value) (l : List UInt8) (d : TypeDesc) (hr : RowAt w g t cs) (hp : (cs.toList.drop k).take (cellsB l).length = cellsB l)
    (hu : P.underlying ty = some d) (hd : d.isRow = true) (hs : (P.info? ty).map (·.size) = some (cellsB l).length) : (execOp a.eval o).run P w = .ok (.value (.agg (keyC l))) w := by
  have hc : w.rangeAt g k (cellsB l) := by
    have h := rangeAt_row (k := k) (n := (cellsB l).length) hr
    rwa [hp] at h
  unfold execOp
  simp only [ho, hx, Instr.loadAt, Instr.sureAddr, Sem.run_bind, Sem.run_pure, Result.andThen_ok, run_loadVar_mid w g k ty (cellsB l) d hc hu hd hs]
  rfl
theorem Env.cellAt {w0 w : World} {rs : List (Nat × TypeId × Array Value)} {g : Nat} {t : TypeId} {cs : Array Value} (h : Env w0 rs w) (i : Nat) (hi : rs[i]? = some (g, t, cs)) (j : Nat) (v : Value) (hv : cs[j]? = some v) : w.cell? ⟨g, j, none⟩ = some v := by
  rw [(h.row i hi).cell j, hv]
theorem Env.fzAt {w0 w : World} {rs : List (Nat × TypeId × Array Value)} {g : Nat} {t : TypeId} {cs : Array Value} (h : Env w0 rs w) (i : Nat) (hi : rs[i]? = some (g, t, cs)) (j : Nat) : w.frozen? ⟨g, j, none⟩ = false := (h.row i hi).frozen j

set_option maxHeartbeats 2000000 in
theorem public1_env (w0 W : World) (rs : List (Nat × TypeId × Array Value)) (i j b p : Nat) (s q : List UInt8) (ls : s.length = 32) (lq : q.length = 32) (hE : Env w0 rs W) (hi : rs[i]? = some (b, 71, pairC s 0 1 q)) (hj : rs[j]? = some (p, 31, #[.pointer (some ⟨b, 0, none⟩)])) :
    Calls Try.prog 35 #[.pointer (some ⟨p, 0, none⟩)] W fun e x => e = .returned (.tuple #[]) ∧ Env w0 (rs.set i (b, 71, pairC s 0 1 (rawK s nineK))) x := by
  obtain ⟨k, hk⟩ : ∃ k, k = rawK s nineK := ⟨_, rfl⟩
  have Lk : Hid (k.length = 32) := by show _ = _; rw [hk]; exact rawK_length _ _
  have C5 : Hid (∀ w, Calls Try.prog 21 #[.agg (keyC s)] w (RetV w (.agg (keyC k)))) := by rw [hk]; exact fun w => Public_any s ls w
  rw [← hk]
  have HE := Lib.hid hE
  have Ls := Lib.hid ls
  have Lq := Lib.hid lq
  have HI := Lib.hid hi
  have HJ := Lib.hid hj
  have HP : Hid (∀ W, Env w0 rs W → W.cell? ⟨p, 0, none⟩ = some (.pointer (some ⟨b, 0, none⟩))) := fun W h => h.cellAt j HJ.out 0 _ rfl
  clear hk hE hi hj ls lq
  go_enter Try.func35, Try.ntmps35
  refine region_class_tail 8 (Env w0 rs) HE.out.drew (by kernel_rfl) (by kernel_rfl) ?_
  simp only [List.take_succ_cons, List.take_zero, List.drop_succ_cons, List.drop_zero]
  refine q_run (by rfl) (v := .pointer (some ⟨b, 0, none⟩)) (fun W hW => by have c := HP.out W hW; clear hW; go_simp) ?_
  simp only [Act.put, List.setIfInBounds_toArray, List.set_cons_zero, List.set_cons_succ]
  refine q_run (by rfl) (v := .pointer (some ⟨b, 0, none⟩)) (fun W hW => by have c := HP.out W hW; clear hW; go_simp) ?_
  simp only [Act.put, List.setIfInBounds_toArray, List.set_cons_zero, List.set_cons_succ]
  refine q_run (by rfl) (v := .pointer (some ⟨b, 0, none⟩)) (fun W _ => by go_simp) ?_
  simp only [Act.put, List.setIfInBounds_toArray, List.set_cons_zero, List.set_cons_succ]
  refine q_run (by rfl) (v := .pointer (some ⟨b, 0, none⟩)) (fun W _ => by go_simp) ?_
  simp only [Act.put, List.setIfInBounds_toArray, List.set_cons_zero, List.set_cons_succ]
  refine q_run (by rfl) (v := .agg (keyC s)) (fun W hW => run_part_key 23 (.tmp 4) rfl b 0 rfl 71 _ s _ (hW.row i HI.out) (pairC_secret s q 0 1 Ls.out) Try.underlying23 rfl (Try.sizeKeyL s Ls.out)) ?_
  simp only [Act.put, List.setIfInBounds_toArray, List.set_cons_zero, List.set_cons_succ]
  refine q_call (by rfl) 21 _ (fun W => by go_simp) (fun W hW => hW.calls (C5.out W)) ?_
  simp only [Act.put, List.setIfInBounds_toArray, List.set_cons_zero, List.set_cons_succ]
  refine q_run (by rfl) (v := .pointer (some ⟨b, 0, none⟩)) (fun W _ => by go_simp) ?_
  simp only [Act.put, List.setIfInBounds_toArray, List.set_cons_zero, List.set_cons_succ]
  refine q_run (by rfl) (v := .pointer (some ⟨b, 35, none⟩)) (fun W _ => by go_simp) ?_
  simp only [Act.put, List.setIfInBounds_toArray, List.set_cons_zero, List.set_cons_succ]
  refine wpQuiet_nil ?_
  intro w2 T2
  refine wpE_storeP rfl 23 (.tmp 8) (.tmp 6) rfl i b 35 71 (pairC s 0 1 q) (pairC s 0 1 k) (keyC k) HI.out rfl rfl (by rw [keyC_size, Lk.out, pairC_size s q 0 1 Ls.out Lq.out]; omega) (pairC_put s q 0 1 Ls.out Lq.out k Lk.out) (Try.sizeKey k Lk.out) (keyC_one k) T2 ?_
  intro w3 T3
  go_end0
  exact ⟨rfl, T3⟩
end Go.Proofs.Ytpgjcmccfpjmoaa
end
section
namespace Go.Proofs.Ytpgjcmccfpjmoaa
open Go.RowKit
set_option linter.unusedVariables false
set_option maxRecDepth 20000

theorem getElem?_set_far {α : Type} {l : List α} {i j : Nat} {x y : α} (h : l[j]? = some y) (hne : i ≠ j) : (l.set i x)[j]? = some y := by
  rw [List.getElem?_set, if_neg hne, h]
theorem Env.rest {w0 w : World} {r : Nat × TypeId × Array Value} {rs : List (Nat × TypeId × Array Value)} (h : Env w0 (r :: rs) w) : Env w0 rs w := h.less (List.sublist_cons_self _ _)

set_option maxHeartbeats 2000000 in
theorem pairPublic_first (w0 W : World) (rs : List (Nat × TypeId × Array Value)) (i b : Nat) (s q : List UInt8) (ls : s.length = 32) (lq : q.length = 32) (hE : Env w0 rs W) (hi : rs[i]? = some (b, 71, pairC s 0 0 q)) :
    Calls Try.prog 18 #[.pointer (some ⟨b, 0, none⟩)] W fun e x => e = .returned (.agg (keyC (rawK s nineK))) ∧ Env w0 (rs.set i (b, 71, pairC s 1 0 (rawK s nineK))) x := by
  obtain ⟨k, hk⟩ : ∃ k, k = rawK s nineK := ⟨_, rfl⟩
  have Lk : Hid (k.length = 32) := by show _ = _; rw [hk]; exact rawK_length _ _
  have Ls := Lib.hid ls
  have HI := Lib.hid hi
  have hil : i < rs.length := (List.getElem?_eq_some_iff.1 hi).1
  have E1 := Lib.hid (hE.new (NewRow.mk_ W 31 #[.pointer (some ⟨b, 0, none⟩)]))
  have HF := Lib.hid (fun W rs i j p hE hi hj => public1_env w0 W rs i j b p s q ls lq hE hi hj)
  rw [← hk] at HF ⊢
  have hmf : ∀ (fn : Fn) (first cap : Array Value) (w : World), (Instr.makeFunc fn first cap).run Try.prog w = .ok (.func fn first cap) w := fun _ _ _ _ => rfl
  clear hk ls lq hE hi
  go_enter Try.func18, Try.ntmps18
  go_wp2_with ((with_reducible refine wpE_alloc (o := ⟨some 2, _, _, _, _, _⟩) rfl 23 rfl (keyC zeroKey) Try.zeroK E1.out ?_); intro g2 w2 T2; have hc := T2.cellAt 1 rfl 0 _ rfl; have E2 := Lib.hid T2; clear T2)
  obtain ⟨p, hpp⟩ : ∃ p, p = W.heap.size := ⟨_, rfl⟩
  rw [← hpp] at E2 hc ⊢
  clear hpp E1
  -- the lock is taken, the key is laid, the lock is given back
  have hI2 : ((g2, 23, keyC zeroKey) :: (p, 31, #[.pointer (some ⟨b, 0, none⟩)]) :: rs)[i + 2]? = some (b, 71, pairC s 0 0 q) := HI.out
  have hL := E2.out.cellTo (i + 2) hI2 33 (.int .i32 1) (pairC_set33 s q 0 0 Ls.out 1)
  have hIL : (((g2, 23, keyC zeroKey) :: (p, 31, #[.pointer (some ⟨b, 0, none⟩)]) :: rs).set (i + 2) (b, 71, pairC s 0 1 q))[i + 2]? = some (b, 71, pairC s 0 1 q) := by simp [hil]
  have hJL : (((g2, 23, keyC zeroKey) :: (p, 31, #[.pointer (some ⟨b, 0, none⟩)]) :: rs).set (i + 2) (b, 71, pairC s 0 1 q))[1]? = some (p, 31, #[.pointer (some ⟨b, 0, none⟩)]) := rfl
  have hone := once_first b 32 35 #[.pointer (some ⟨p, 0, none⟩)] (enters_of Try.func35 (by kernel_rfl) rfl) w2
    (E2.out.cellAt (i + 2) hI2 32 _ (pairC_32 s q 0 0 Ls.out)) (E2.out.cellAt (i + 2) hI2 33 _ (pairC_33 s q 0 0 Ls.out)) (E2.out.fzAt (i + 2) hI2 32) (E2.out.fzAt (i + 2) hI2 33)
    (fun x => Env w0 ((g2, 23, keyC zeroKey) :: (p, 31, #[.pointer (some ⟨b, 0, none⟩)]) :: rs.set i (b, 71, pairC s 0 1 k)) x)
    ((HF.out _ _ (i + 2) 1 p hL hIL hJL).mono fun e x h => ⟨h.1, by have := h.2; rw [List.set_set] at this; exact this⟩)
    (fun x hx => by
      have hIx : ((g2, 23, keyC zeroKey) :: (p, 31, #[.pointer (some ⟨b, 0, none⟩)]) :: rs.set i (b, 71, pairC s 0 1 k))[i + 2]? = some (b, 71, pairC s 0 1 k) := by simp [hil]
      exact ⟨hx.cellAt (i + 2) hIx 32 _ (pairC_32 s k 0 1 Ls.out), hx.fzAt (i + 2) hIx 32, hx.cellAt (i + 2) hIx 33 _ (pairC_33 s k 0 1 Ls.out), hx.fzAt (i + 2) hIx 33⟩)
  clear hI2 hL hIL hJL HF E2
  refine hone.mono ?_
  clear hone
  intro e x' h
  obtain ⟨he, x, hx, hx'⟩ := h
  subst he
  have hIx : ((g2, 23, keyC zeroKey) :: (p, 31, #[.pointer (some ⟨b, 0, none⟩)]) :: rs.set i (b, 71, pairC s 0 1 k))[i + 2]? = some (b, 71, pairC s 0 1 k) := by simp [hil]
  have h1 := hx.drew.cellTo (i + 2) hIx 32 (.int .u32 1) (pairC_set32 s k 0 1 Ls.out 1)
  simp only [List.set_cons_succ, List.set_set] at h1
  have hIy : ((g2, 23, keyC zeroKey) :: (p, 31, #[.pointer (some ⟨b, 0, none⟩)]) :: rs.set i (b, 71, pairC s 1 1 k))[i + 2]? = some (b, 71, pairC s 1 1 k) := by simp [hil]
  have h2 := h1.cellTo (i + 2) hIy 33 (.int .i32 0) (pairC_set33 s k 1 1 Ls.out 0)
  simp only [List.set_cons_succ, List.set_set] at h2
  rw [← hx'] at h2
  have E3 := Lib.hid h2
  have hcp := h2.cellAt 1 rfl 0 _ rfl
  have hIz : Hid (((g2, 23, keyC zeroKey) :: (p, 31, #[.pointer (some ⟨b, 0, none⟩)]) :: rs.set i (b, 71, pairC s 1 0 k))[i + 2]? = some (b, 71, pairC s 1 0 k)) := by show _ = _; simp [hil]
  clear hx hx' hIx h1 hIy h2 hil HI hc
  go_wp2_with (first
    | (with_reducible refine wpE_loadP (o := ⟨some 14, _, _, _, _, _⟩) rfl 23 (.tmp 13) rfl (i + 2) b 35 71 (pairC s 1 0 k) (cellsB k) (.array 32 5) hIz.out (by with_unfolding_all rfl) (pairC_public s k 1 0 Ls.out) Try.underlying23 rfl (Try.sizeKeyL k Lk.out) E3.out ?_)
    | ((with_reducible refine wpE_store (o := ⟨none, _, _, _, _, _⟩) rfl 23 (.tmp 2) (.tmp 14) rfl 0 g2 23 (keyC zeroKey) (keyC k) (by with_unfolding_all rfl) (by with_unfolding_all rfl) (by with_unfolding_all rfl) (keyC_same zeroKey_length Lk.out) (Try.sizeKey _ Lk.out) (keyC_one _) E3.out ?_); intro w5 T5; simp only [List.set_cons_zero] at T5; have E5 := Lib.hid T5; clear T5))
  exact bodyPost_ret (results_cell_row rfl _ _ g2 23 (keyC k) (0, 0) (.array 32 5) rfl (E5.out.row 0 rfl) Try.underlying23 rfl (Try.sizeKey _ Lk.out)) rfl ⟨rfl, E5.out.rest.rest⟩
set_option maxHeartbeats 2000000 in
theorem pairPublic_again (w0 W : World) (rs : List (Nat × TypeId × Array Value)) (i b : Nat) (s k : List UInt8) (ls : s.length = 32) (lk : k.length = 32) (hE : Env w0 rs W) (hi : rs[i]? = some (b, 71, pairC s 1 0 k)) :
    Calls Try.prog 18 #[.pointer (some ⟨b, 0, none⟩)] W fun e x => e = .returned (.agg (keyC k)) ∧ Env w0 rs x := by
  have Lk := Lib.hid lk
  have Ls := Lib.hid ls
  have HI := Lib.hid hi
  have E1 := Lib.hid (hE.new (NewRow.mk_ W 31 #[.pointer (some ⟨b, 0, none⟩)]))
  have hmf : ∀ (fn : Fn) (first cap : Array Value) (w : World), (Instr.makeFunc fn first cap).run Try.prog w = .ok (.func fn first cap) w := fun _ _ _ _ => rfl
  clear ls lk hE hi
  go_enter Try.func18, Try.ntmps18
  go_wp2_with ((with_reducible refine wpE_alloc (o := ⟨some 2, _, _, _, _, _⟩) rfl 23 rfl (keyC zeroKey) Try.zeroK E1.out ?_); intro g2 w2 T2; have hc := T2.cellAt 1 rfl 0 _ rfl; have E2 := Lib.hid T2; clear T2)
  obtain ⟨p, hpp⟩ : ∃ p, p = W.heap.size := ⟨_, rfl⟩
  rw [← hpp] at E2 hc ⊢
  clear hpp E1
  have hI2 : ((g2, 23, keyC zeroKey) :: (p, 31, #[.pointer (some ⟨b, 0, none⟩)]) :: rs)[i + 2]? = some (b, 71, pairC s 1 0 k) := HI.out
  refine (once_done ⟨b, 32, none⟩ _ w2 (E2.out.cellAt (i + 2) hI2 32 _ (pairC_32 s k 1 0 Ls.out))).mono ?_
  rintro e w3 ⟨rfl, rfl⟩
  have HI2 := Lib.hid hI2
  clear hI2
  go_wp2_with (first
    | (with_reducible refine wpE_loadP (o := ⟨some 14, _, _, _, _, _⟩) rfl 23 (.tmp 13) rfl (i + 2) b 35 71 (pairC s 1 0 k) (cellsB k) (.array 32 5) HI2.out (by with_unfolding_all rfl) (pairC_public s k 1 0 Ls.out) Try.underlying23 rfl (Try.sizeKeyL k Lk.out) E2.out ?_)
    | ((with_reducible refine wpE_store (o := ⟨none, _, _, _, _, _⟩) rfl 23 (.tmp 2) (.tmp 14) rfl 0 g2 23 (keyC zeroKey) (keyC k) (by with_unfolding_all rfl) (by with_unfolding_all rfl) (by with_unfolding_all rfl) (keyC_same zeroKey_length Lk.out) (Try.sizeKey _ Lk.out) (keyC_one _) E2.out ?_); intro w5 T5; simp only [List.set_cons_zero] at T5; have E5 := Lib.hid T5; clear T5))
  exact bodyPost_ret (results_cell_row rfl _ _ g2 23 (keyC k) (0, 0) (.array 32 5) rfl (E5.out.row 0 rfl) Try.underlying23 rfl (Try.sizeKey _ Lk.out)) rfl ⟨rfl, E5.out.rest.rest⟩
set_option maxHeartbeats 2000000 in
theorem pairSecret_env (w0 W : World) (rs : List (Nat × TypeId × Array Value)) (i b : Nat) (s k : List UInt8) (d m : Int) (ls : s.length = 32) (hE : Env w0 rs W) (hi : rs[i]? = some (b, 71, pairC s d m k)) :
    Calls Try.prog 19 #[.pointer (some ⟨b, 0, none⟩)] W fun e x => e = .returned (.agg (keyC s)) ∧ Env w0 rs x := by
  have Ls := Lib.hid ls
  have HI := Lib.hid hi
  have E1 := Lib.hid hE
  clear ls hE hi
  go_enter Try.func19, Try.ntmps19
  go_wp2_with (first
    | ((with_reducible refine wpE_alloc (o := ⟨some 2, _, _, _, _, _⟩) rfl 23 rfl (keyC zeroKey) Try.zeroK E1.out ?_); intro g2 w2 T2; have E2 := Lib.hid T2; clear T2)
    | (with_reducible refine wpE_loadP (o := ⟨some 9, _, _, _, _, _⟩) rfl 23 (.tmp 8) rfl (i + 1) b 0 71 (pairC s d m k) (cellsB s) (.array 32 5) HI.out (by with_unfolding_all rfl) (pairC_secret s k d m Ls.out) Try.underlying23 rfl (Try.sizeKeyL s Ls.out) E2.out ?_)
    | ((with_reducible refine wpE_store (o := ⟨none, _, _, _, _, _⟩) rfl 23 (.tmp 2) (.tmp 9) rfl 0 g2 23 (keyC zeroKey) (keyC s) (by with_unfolding_all rfl) (by with_unfolding_all rfl) (by with_unfolding_all rfl) (keyC_same zeroKey_length Ls.out) (Try.sizeKey _ Ls.out) (keyC_one _) E2.out ?_); intro w5 T5; simp only [List.set_cons_zero] at T5; have E5 := Lib.hid T5; clear T5))
  exact bodyPost_ret (results_cell_row rfl _ _ g2 23 (keyC s) (0, 0) (.array 32 5) rfl (E5.out.row 0 rfl) Try.underlying23 rfl (Try.sizeKey _ Ls.out)) rfl ⟨rfl, E5.out.rest⟩
end Go.Proofs.Ytpgjcmccfpjmoaa
end
