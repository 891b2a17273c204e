/-
  Contract of the ladder's Mult. Conditions: keys have thirty-two bytes.
-/
import Derived.Test.YtpgjcmccfpjmoaaLadderE
namespace Go.Proofs.Ytpgjcmccfpjmoaa
open Go.RowKit
set_option linter.unusedVariables false
set_option maxRecDepth 20000

theorem keyBs {w : World} {g : Nat} {t : TypeId} {l : List UInt8} (h : RowAt w g t (keyC l)) (hl : l.length = 32) : Bs w (.slice (some ⟨g, 0, none⟩) 32 32) l := by
  refine ⟨some ⟨g, 0, none⟩, 32, by rw [hl], by omega, by unfold maxLen; omega, fun _ => ⟨g, 0, rfl, fun i hi => ?_⟩⟩
  rw [Nat.zero_add]
  exact keyC_cell h i hi
/-- What Mult answers. -/
def multK (s p : List UInt8) : List UInt8 := if ofLowB p < pF then rawK s p else zeroKey
def multE (s p : List UInt8) : Int := if ofLowB p < pF then (if rawK s p = zeroKey then 30 else 0) else 30
theorem multK_length (s p : List UInt8) : (multK s p).length = 32 := by unfold multK; split; exact rawK_length _ _; exact zeroKey_length
set_option maxHeartbeats 2000000 in
theorem Mult_any (s p : List UInt8) (hs : s.length = 32) (hp : p.length = 32) (w : World) : Calls Try.prog 12 #[.agg (keyC s), .agg (keyC p)] w (RetV w (.tuple #[.agg (keyC (multK s p)), .int .i64 (multE s p)])) := by
  have Ls := Lib.hid hs
  have Lp := Lib.hid hp
  by_cases hwh' : ofLowB p < pF
  · have hwh : decide (ofLowB p < pF) = true := by simp [hwh']
    by_cases hqq : rawK s p = zeroKey
    · have heq : (rawK s p == zeroKey) = true := by rw [hqq]; exact beq_self_eq_true _
      obtain ⟨v12, hv12⟩ : ∃ v, v = numK p := ⟨_, rfl⟩
      have bv12 : v12 < pF := by rw [hv12]; exact numK_lt _
      have C12 : Hid (∀ w, Calls Try.prog 23 #[.agg (keyC (p))] w (RetV w (.tuple #[.agg (natsC (elemL v12)), .bool true]))) := by rw [hv12]; exact fun w => by have h := Of_any p hp w; rw [hwh] at h; exact h
      obtain ⟨k20, hk20⟩ : ∃ v, v = rawK s p := ⟨_, rfl⟩
      have Lk20 : Hid (k20.length = 32) := by show _ = _; rw [hk20]; exact rawK_length _ _
      have C20 : Hid (∀ w, Calls Try.prog 11 #[.agg (keyC (s)), .agg (keyC (p))] w (RetV w (.agg (keyC (k20))))) := by rw [hk20]; exact fun w => Raw_any s p hs hp w
      have HQ : Hid ((k20 == zeroKey) = true) := by show _ = _; rw [hk20]; exact heq
      have HR : Hid ((Value.tuple #[.agg (keyC (multK s p)), .int .i64 (multE s p)]) = .tuple #[.agg (keyC (zeroKey)), .int .i64 30]) := by show _ = _; unfold multK multE; rw [if_pos hwh', if_pos hwh', if_pos hqq, hqq]
      clear hv12 bv12 hk20
      have E0 := Lib.hid (Env.start w)
      go_enter Try.func12, Try.ntmps12
      go_wp2_with (first
        | ((with_reducible refine wpE_box (o := ⟨some 2, _, _, _, _, _⟩) rfl 23 (.tmp 0) rfl (keyC (s)) (by with_unfolding_all rfl) E0.out ?_); intro g1 w1 T1; have E1 := Lib.hid T1; clear T1)
        | ((with_reducible refine wpE_box (o := ⟨some 3, _, _, _, _, _⟩) rfl 23 (.tmp 1) rfl (keyC (p)) (by with_unfolding_all rfl) E1.out ?_); intro g2 w2 T2; have E2 := Lib.hid T2; clear T2)
        | ((with_reducible refine wpE_alloc (o := ⟨some 4, _, _, _, _, _⟩) rfl 23 rfl (keyC (zeroKey)) Try.zeroK E2.out ?_); intro g3 w3 T3; have E3 := Lib.hid T3; clear T3)
        | (with_reducible refine wpE_load (o := ⟨some 11, _, _, _, _, _⟩) rfl 23 (.tmp 3) rfl 1 g2 23 (keyC (p)) _ (by with_unfolding_all rfl) (by with_unfolding_all rfl) Try.underlying23 rfl (Try.sizeKey _ Lp.out) E3.out ?_))
      refine (C12.out _).mono ?_
      rintro e w4 ⟨rfl, b4⟩
      have E4 := Lib.hid (E3.out.call b4)
      clear b4 E3
      go_wp2_with (first
        | ((with_reducible refine wpE_alloc (o := ⟨some 6, _, _, _, _, _⟩) rfl 45 rfl (natsC (zero5)) Try.zero5e E4.out ?_); intro g4 w5 T5; have E5 := Lib.hid T5; clear T5)
        | ((with_reducible refine wpE_store (o := ⟨none, _, _, _, _, _⟩) rfl 45 (.tmp 6) (.tmp 13) rfl 0 g4 45 (natsC (zero5)) (natsC (elemL v12)) (by with_unfolding_all rfl) (by with_unfolding_all rfl) (by with_unfolding_all rfl) (natsC_same zero5_length (elemL_length _)) (sizeN Try.sz5e _ (elemL_length _)) (natsC_one _) E5.out ?_); intro w6 T6; simp only [List.set_cons_zero] at T6; have E6 := Lib.hid T6; clear T6)
        | ((with_reducible refine wpE_alloc (o := ⟨some 8, _, _, _, _, _⟩) rfl 23 rfl (keyC (zeroKey)) Try.zeroK E6.out ?_); intro g5 w7 T7; have E7 := Lib.hid T7; clear T7)
        | (with_reducible refine wpE_load (o := ⟨some 18, _, _, _, _, _⟩) rfl 23 (.tmp 2) rfl 4 g1 23 (keyC (s)) _ (by with_unfolding_all rfl) (by with_unfolding_all rfl) Try.underlying23 rfl (Try.sizeKey _ Ls.out) E7.out ?_)
        | (with_reducible refine wpE_load (o := ⟨some 19, _, _, _, _, _⟩) rfl 23 (.tmp 3) rfl 3 g2 23 (keyC (p)) _ (by with_unfolding_all rfl) (by with_unfolding_all rfl) Try.underlying23 rfl (Try.sizeKey _ Lp.out) E7.out ?_))
      refine (C20.out _).mono ?_
      rintro e w8 ⟨rfl, b8⟩
      have E8 := Lib.hid (E7.out.call b8)
      clear b8 E7
      go_wp2_with (first
        | ((with_reducible refine wpE_alloc (o := ⟨some 9, _, _, _, _, _⟩) rfl 23 rfl (keyC (zeroKey)) Try.zeroK E8.out ?_); intro g6 w9 T9; have E9 := Lib.hid T9; clear T9)
        | ((with_reducible refine wpE_store (o := ⟨none, _, _, _, _, _⟩) rfl 23 (.tmp 9) (.tmp 20) rfl 0 g6 23 (keyC (zeroKey)) (keyC (k20)) (by with_unfolding_all rfl) (by with_unfolding_all rfl) (by with_unfolding_all rfl) (keyC_same zeroKey_length Lk20.out) (Try.sizeKey _ Lk20.out) (keyC_one _) E9.out ?_); intro w10 T10; simp only [List.set_cons_zero] at T10; have E10 := Lib.hid T10; clear T10))
      refine region_class _ E10.out.drew (by kernel_rfl) (by kernel_rfl) ?_
      refine q_run (by rfl) (v := .slice (some ⟨g6, 0, none⟩) 32 32) (fun W _ => by go_simp) ?_
      simp only [Act.put, List.setIfInBounds_toArray, List.set_cons_zero, List.set_cons_succ]
      refine q_run (by rfl) (v := .slice (some ⟨g5, 0, none⟩) 32 32) (fun W _ => by go_simp) ?_
      simp only [Act.put, List.setIfInBounds_toArray, List.set_cons_zero, List.set_cons_succ]
      refine q_call (by rfl) 26 (v := .bool true) #[.slice (some ⟨g6, 0, none⟩) 32 32, .slice (some ⟨g5, 0, none⟩) 32 32] (fun W => by go_simp) (fun W hW => hW.callsQ (by have h := Same_any W _ _ k20 zeroKey (keyBs (hW.row 0 rfl) Lk20.out) (keyBs (hW.row 1 rfl) zeroKey_length); rw [HQ.out] at h; exact h)) ?_
      simp only [Act.put, List.setIfInBounds_toArray, List.set_cons_zero, List.set_cons_succ]
      refine wpQuiet_nil ?_
      intro w11 T11
      have E11 := Lib.hid T11
      clear T11 E10
      go_wp2_with (first
        | (with_reducible refine wpE_load (o := ⟨some 24, _, _, _, _, _⟩) rfl 23 (.tmp 8) rfl 1 g5 23 (keyC (zeroKey)) _ (by with_unfolding_all rfl) (by with_unfolding_all rfl) Try.underlying23 rfl (Try.sizeKey _ zeroKey_length) E11.out ?_)
        | ((with_reducible refine wpE_store (o := ⟨none, _, _, _, _, _⟩) rfl 23 (.tmp 4) (.tmp 24) rfl 3 g3 23 (keyC (zeroKey)) (keyC (zeroKey)) (by with_unfolding_all rfl) (by with_unfolding_all rfl) (by with_unfolding_all rfl) (keyC_same zeroKey_length zeroKey_length) (Try.sizeKey _ zeroKey_length) (keyC_one _) E11.out ?_); intro w12 T12; simp only [List.set_cons_zero, List.set_cons_succ] at T12; have E12 := Lib.hid T12; clear T12))
      refine bodyPost_ret (ret_row_tmp rfl _ g3 23 (keyC (zeroKey)) _ rfl (E12.out.row 3 rfl) Try.underlying23 rfl (Try.sizeKey _ zeroKey_length)) rfl ⟨?_, E12.out.below⟩
      rw [HR.out]
      rfl
    · have heq : (rawK s p == zeroKey) = false := by rw [beq_eq_false_iff_ne]; exact hqq
      obtain ⟨v12, hv12⟩ : ∃ v, v = numK p := ⟨_, rfl⟩
      have bv12 : v12 < pF := by rw [hv12]; exact numK_lt _
      have C12 : Hid (∀ w, Calls Try.prog 23 #[.agg (keyC (p))] w (RetV w (.tuple #[.agg (natsC (elemL v12)), .bool true]))) := by rw [hv12]; exact fun w => by have h := Of_any p hp w; rw [hwh] at h; exact h
      obtain ⟨k20, hk20⟩ : ∃ v, v = rawK s p := ⟨_, rfl⟩
      have Lk20 : Hid (k20.length = 32) := by show _ = _; rw [hk20]; exact rawK_length _ _
      have C20 : Hid (∀ w, Calls Try.prog 11 #[.agg (keyC (s)), .agg (keyC (p))] w (RetV w (.agg (keyC (k20))))) := by rw [hk20]; exact fun w => Raw_any s p hs hp w
      have HQ : Hid ((k20 == zeroKey) = false) := by show _ = _; rw [hk20]; exact heq
      have HR : Hid ((Value.tuple #[.agg (keyC (multK s p)), .int .i64 (multE s p)]) = .tuple #[.agg (keyC (k20)), .int .i64 0]) := by show _ = _; unfold multK multE; rw [if_pos hwh', if_pos hwh', if_neg hqq, hk20]
      clear hv12 bv12 hk20
      have E0 := Lib.hid (Env.start w)
      go_enter Try.func12, Try.ntmps12
      go_wp2_with (first
        | ((with_reducible refine wpE_box (o := ⟨some 2, _, _, _, _, _⟩) rfl 23 (.tmp 0) rfl (keyC (s)) (by with_unfolding_all rfl) E0.out ?_); intro g1 w1 T1; have E1 := Lib.hid T1; clear T1)
        | ((with_reducible refine wpE_box (o := ⟨some 3, _, _, _, _, _⟩) rfl 23 (.tmp 1) rfl (keyC (p)) (by with_unfolding_all rfl) E1.out ?_); intro g2 w2 T2; have E2 := Lib.hid T2; clear T2)
        | ((with_reducible refine wpE_alloc (o := ⟨some 4, _, _, _, _, _⟩) rfl 23 rfl (keyC (zeroKey)) Try.zeroK E2.out ?_); intro g3 w3 T3; have E3 := Lib.hid T3; clear T3)
        | (with_reducible refine wpE_load (o := ⟨some 11, _, _, _, _, _⟩) rfl 23 (.tmp 3) rfl 1 g2 23 (keyC (p)) _ (by with_unfolding_all rfl) (by with_unfolding_all rfl) Try.underlying23 rfl (Try.sizeKey _ Lp.out) E3.out ?_))
      refine (C12.out _).mono ?_
      rintro e w4 ⟨rfl, b4⟩
      have E4 := Lib.hid (E3.out.call b4)
      clear b4 E3
      go_wp2_with (first
        | ((with_reducible refine wpE_alloc (o := ⟨some 6, _, _, _, _, _⟩) rfl 45 rfl (natsC (zero5)) Try.zero5e E4.out ?_); intro g4 w5 T5; have E5 := Lib.hid T5; clear T5)
        | ((with_reducible refine wpE_store (o := ⟨none, _, _, _, _, _⟩) rfl 45 (.tmp 6) (.tmp 13) rfl 0 g4 45 (natsC (zero5)) (natsC (elemL v12)) (by with_unfolding_all rfl) (by with_unfolding_all rfl) (by with_unfolding_all rfl) (natsC_same zero5_length (elemL_length _)) (sizeN Try.sz5e _ (elemL_length _)) (natsC_one _) E5.out ?_); intro w6 T6; simp only [List.set_cons_zero] at T6; have E6 := Lib.hid T6; clear T6)
        | ((with_reducible refine wpE_alloc (o := ⟨some 8, _, _, _, _, _⟩) rfl 23 rfl (keyC (zeroKey)) Try.zeroK E6.out ?_); intro g5 w7 T7; have E7 := Lib.hid T7; clear T7)
        | (with_reducible refine wpE_load (o := ⟨some 18, _, _, _, _, _⟩) rfl 23 (.tmp 2) rfl 4 g1 23 (keyC (s)) _ (by with_unfolding_all rfl) (by with_unfolding_all rfl) Try.underlying23 rfl (Try.sizeKey _ Ls.out) E7.out ?_)
        | (with_reducible refine wpE_load (o := ⟨some 19, _, _, _, _, _⟩) rfl 23 (.tmp 3) rfl 3 g2 23 (keyC (p)) _ (by with_unfolding_all rfl) (by with_unfolding_all rfl) Try.underlying23 rfl (Try.sizeKey _ Lp.out) E7.out ?_))
      refine (C20.out _).mono ?_
      rintro e w8 ⟨rfl, b8⟩
      have E8 := Lib.hid (E7.out.call b8)
      clear b8 E7
      go_wp2_with (first
        | ((with_reducible refine wpE_alloc (o := ⟨some 9, _, _, _, _, _⟩) rfl 23 rfl (keyC (zeroKey)) Try.zeroK E8.out ?_); intro g6 w9 T9; have E9 := Lib.hid T9; clear T9)
        | ((with_reducible refine wpE_store (o := ⟨none, _, _, _, _, _⟩) rfl 23 (.tmp 9) (.tmp 20) rfl 0 g6 23 (keyC (zeroKey)) (keyC (k20)) (by with_unfolding_all rfl) (by with_unfolding_all rfl) (by with_unfolding_all rfl) (keyC_same zeroKey_length Lk20.out) (Try.sizeKey _ Lk20.out) (keyC_one _) E9.out ?_); intro w10 T10; simp only [List.set_cons_zero] at T10; have E10 := Lib.hid T10; clear T10))
      refine region_class _ E10.out.drew (by kernel_rfl) (by kernel_rfl) ?_
      refine q_run (by rfl) (v := .slice (some ⟨g6, 0, none⟩) 32 32) (fun W _ => by go_simp) ?_
      simp only [Act.put, List.setIfInBounds_toArray, List.set_cons_zero, List.set_cons_succ]
      refine q_run (by rfl) (v := .slice (some ⟨g5, 0, none⟩) 32 32) (fun W _ => by go_simp) ?_
      simp only [Act.put, List.setIfInBounds_toArray, List.set_cons_zero, List.set_cons_succ]
      refine q_call (by rfl) 26 (v := .bool false) #[.slice (some ⟨g6, 0, none⟩) 32 32, .slice (some ⟨g5, 0, none⟩) 32 32] (fun W => by go_simp) (fun W hW => hW.callsQ (by have h := Same_any W _ _ k20 zeroKey (keyBs (hW.row 0 rfl) Lk20.out) (keyBs (hW.row 1 rfl) zeroKey_length); rw [HQ.out] at h; exact h)) ?_
      simp only [Act.put, List.setIfInBounds_toArray, List.set_cons_zero, List.set_cons_succ]
      refine wpQuiet_nil ?_
      intro w11 T11
      have E11 := Lib.hid T11
      clear T11 E10
      go_wp2_with (first
        | (with_reducible refine wpE_load (o := ⟨some 25, _, _, _, _, _⟩) rfl 23 (.tmp 9) rfl 0 g6 23 (keyC (k20)) _ (by with_unfolding_all rfl) (by with_unfolding_all rfl) Try.underlying23 rfl (Try.sizeKey _ Lk20.out) E11.out ?_)
        | ((with_reducible refine wpE_store (o := ⟨none, _, _, _, _, _⟩) rfl 23 (.tmp 4) (.tmp 25) rfl 3 g3 23 (keyC (zeroKey)) (keyC (k20)) (by with_unfolding_all rfl) (by with_unfolding_all rfl) (by with_unfolding_all rfl) (keyC_same zeroKey_length Lk20.out) (Try.sizeKey _ Lk20.out) (keyC_one _) E11.out ?_); intro w12 T12; simp only [List.set_cons_zero, List.set_cons_succ] at T12; have E12 := Lib.hid T12; clear T12))
      refine bodyPost_ret (ret_row_tmp rfl _ g3 23 (keyC (k20)) _ rfl (E12.out.row 3 rfl) Try.underlying23 rfl (Try.sizeKey _ Lk20.out)) rfl ⟨?_, E12.out.below⟩
      rw [HR.out]
      rfl
  · have hwh : decide (ofLowB p < pF) = false := by simp [hwh']
    obtain ⟨v12, hv12⟩ : ∃ v, v = numK p := ⟨_, rfl⟩
    have bv12 : v12 < pF := by rw [hv12]; exact numK_lt _
    have C12 : Hid (∀ w, Calls Try.prog 23 #[.agg (keyC (p))] w (RetV w (.tuple #[.agg (natsC (elemL v12)), .bool false]))) := by rw [hv12]; exact fun w => by have h := Of_any p hp w; rw [hwh] at h; exact h
    have HR : Hid ((Value.tuple #[.agg (keyC (multK s p)), .int .i64 (multE s p)]) = .tuple #[.agg (keyC (zeroKey)), .int .i64 30]) := by show _ = _; unfold multK multE; rw [if_neg hwh', if_neg hwh']
    clear hv12 bv12
    have E0 := Lib.hid (Env.start w)
    go_enter Try.func12, Try.ntmps12
    go_wp2_with (first
      | ((with_reducible refine wpE_box (o := ⟨some 2, _, _, _, _, _⟩) rfl 23 (.tmp 0) rfl (keyC (s)) (by with_unfolding_all rfl) E0.out ?_); intro g1 w1 T1; have E1 := Lib.hid T1; clear T1)
      | ((with_reducible refine wpE_box (o := ⟨some 3, _, _, _, _, _⟩) rfl 23 (.tmp 1) rfl (keyC (p)) (by with_unfolding_all rfl) E1.out ?_); intro g2 w2 T2; have E2 := Lib.hid T2; clear T2)
      | ((with_reducible refine wpE_alloc (o := ⟨some 4, _, _, _, _, _⟩) rfl 23 rfl (keyC (zeroKey)) Try.zeroK E2.out ?_); intro g3 w3 T3; have E3 := Lib.hid T3; clear T3)
      | (with_reducible refine wpE_load (o := ⟨some 11, _, _, _, _, _⟩) rfl 23 (.tmp 3) rfl 1 g2 23 (keyC (p)) _ (by with_unfolding_all rfl) (by with_unfolding_all rfl) Try.underlying23 rfl (Try.sizeKey _ Lp.out) E3.out ?_))
    refine (C12.out _).mono ?_
    rintro e w4 ⟨rfl, b4⟩
    have E4 := Lib.hid (E3.out.call b4)
    clear b4 E3
    go_wp2_with (first
      | ((with_reducible refine wpE_alloc (o := ⟨some 6, _, _, _, _, _⟩) rfl 45 rfl (natsC (zero5)) Try.zero5e E4.out ?_); intro g4 w5 T5; have E5 := Lib.hid T5; clear T5)
      | ((with_reducible refine wpE_store (o := ⟨none, _, _, _, _, _⟩) rfl 45 (.tmp 6) (.tmp 13) rfl 0 g4 45 (natsC (zero5)) (natsC (elemL v12)) (by with_unfolding_all rfl) (by with_unfolding_all rfl) (by with_unfolding_all rfl) (natsC_same zero5_length (elemL_length _)) (sizeN Try.sz5e _ (elemL_length _)) (natsC_one _) E5.out ?_); intro w6 T6; simp only [List.set_cons_zero] at T6; have E6 := Lib.hid T6; clear T6)
      | ((with_reducible refine wpE_store (o := ⟨none, _, _, _, _, _⟩) rfl 23 (.tmp 4) (.tmp 17) rfl 1 g3 23 (keyC (zeroKey)) (keyC (zeroKey)) (by with_unfolding_all rfl) (by with_unfolding_all rfl) (by with_unfolding_all exact congrArg Value.agg zeroLit) (keyC_same zeroKey_length zeroKey_length) (Try.sizeKey _ zeroKey_length) (keyC_one _) E6.out ?_); intro w7 T7; simp only [List.set_cons_zero, List.set_cons_succ] at T7; have E7 := Lib.hid T7; clear T7))
    refine bodyPost_ret (ret_row_tmp rfl _ g3 23 (keyC (zeroKey)) _ rfl (E7.out.row 1 rfl) Try.underlying23 rfl (Try.sizeKey _ zeroKey_length)) rfl ⟨?_, E7.out.below⟩
    rw [HR.out]
    rfl
end Go.Proofs.Ytpgjcmccfpjmoaa
