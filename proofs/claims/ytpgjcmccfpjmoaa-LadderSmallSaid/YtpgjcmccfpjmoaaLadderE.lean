/-
  Contracts of the ladder's Raw, Public. Conditions: keys have thirty-two bytes.
-/
import Derived.Test.YtpgjcmccfpjmoaaLadderD
import Derived.Test.YtpgjcmccfpjmoaaFieldL
import Derived.Test.YtpgjcmccfpjmoaaE
namespace Go.Proofs.Ytpgjcmccfpjmoaa
open Go.RowKit
set_option linter.unusedVariables false
set_option maxRecDepth 20000

/-- A secret's product with a point. -/
def rawK (s p : List UInt8) : List UInt8 := lowB (multN (clampK s) (numK p)) 32
theorem rawK_length (s p : List UInt8) : (rawK s p).length = 32 := lowB_length _ _
def nineK : List UInt8 := 9 :: List.replicate 31 0
theorem nineK_length : nineK.length = 32 := rfl
theorem nineLit : keyC nineK = #[.int .u8 9, .int .u8 0, .int .u8 0, .int .u8 0, .int .u8 0, .int .u8 0, .int .u8 0, .int .u8 0, .int .u8 0, .int .u8 0, .int .u8 0, .int .u8 0, .int .u8 0, .int .u8 0, .int .u8 0, .int .u8 0, .int .u8 0, .int .u8 0, .int .u8 0, .int .u8 0, .int .u8 0, .int .u8 0, .int .u8 0, .int .u8 0, .int .u8 0, .int .u8 0, .int .u8 0, .int .u8 0, .int .u8 0, .int .u8 0, .int .u8 0, .int .u8 0] := rfl
set_option maxHeartbeats 2000000 in
theorem Raw_any (s p : List UInt8) (hs : s.length = 32) (hp : p.length = 32) (w : World) : Calls Try.prog 11 #[.agg (keyC s), .agg (keyC p)] w (RetV w (.agg (keyC (rawK s p)))) := by
  have Ls := Lib.hid hs
  have Lp := Lib.hid hp
  obtain ⟨v9, hv9⟩ : ∃ v, v = numK p := ⟨_, rfl⟩
  have bv9 : v9 < pF := by rw [hv9]; exact numK_lt _
  obtain ⟨f9, hf9⟩ : ∃ v, v = decide (ofLowB p < pF) := ⟨_, rfl⟩
  have C9 : Hid (∀ w, Calls Try.prog 23 #[.agg (keyC (p))] w (RetV w (.tuple #[.agg (natsC (elemL v9)), .bool f9]))) := by rw [hv9, hf9]; exact fun w => Of_any p hp w
  obtain ⟨k13, hk13⟩ : ∃ v, v = clampK s := ⟨_, rfl⟩
  have Lk13 : Hid (k13.length = 32) := by show _ = _; rw [hk13]; exact clampK_length _ hs
  have C13 : Hid (∀ w, Calls Try.prog 10 #[.agg (keyC (s))] w (RetV w (.agg (keyC (k13))))) := by rw [hk13]; exact fun w => Clamp_any s hs w
  obtain ⟨v15, hv15⟩ : ∃ v, v = multN k13 v9 := ⟨_, rfl⟩
  have bv15 : v15 < pF := by rw [hv15]; exact multN_lt _ _
  have C15 : Hid (∀ w, Calls Try.prog 24 #[.agg (keyC (k13)), .agg (natsC (elemL v9))] w (RetV w (.agg (natsC (elemL v15))))) := by rw [hv15]; exact fun w => multiple_any k13 Lk13.out v9 bv9 w
  obtain ⟨k16, hk16⟩ : ∃ v, v = lowB v15 32 := ⟨_, rfl⟩
  have Lk16 : Hid (k16.length = 32) := by show _ = _; rw [hk16]; exact lowB_length _ _
  have C16 : Hid (∀ w, Calls Try.prog 25 #[.agg (natsC (elemL v15))] w (RetV w (.agg (keyC (k16))))) := by rw [hk16]; exact fun w => Key_any v15 bv15 w
  have HR : Hid (keyC (rawK s p) = (keyC (k16))) := by show _ = _; rw [rawK, hk16, hv15, hk13, hv9]
  clear hv9 bv9 hf9 hk13 hv15 bv15 hk16
  have E0 := Lib.hid (Env.start w)
  go_enter Try.func11, Try.ntmps11
  go_wp2_with (first
    | ((with_reducible refine wpE_box (o := ⟨some 2, _, _, _, _, _⟩) rfl 23 (.tmp 0) rfl (keyC (s)) (by with_unfolding_all rfl) E0.out ?_); intro g1 w1 T1; have E1 := Lib.hid T1; clear T1)
    | ((with_reducible refine wpE_box (o := ⟨some 3, _, _, _, _, _⟩) rfl 23 (.tmp 1) rfl (keyC (p)) (by with_unfolding_all rfl) E1.out ?_); intro g2 w2 T2; have E2 := Lib.hid T2; clear T2)
    | ((with_reducible refine wpE_alloc (o := ⟨some 4, _, _, _, _, _⟩) rfl 23 rfl (keyC (zeroKey)) Try.zeroK E2.out ?_); intro g3 w3 T3; have E3 := Lib.hid T3; clear T3)
    | (with_reducible refine wpE_load (o := ⟨some 8, _, _, _, _, _⟩) rfl 23 (.tmp 3) rfl 1 g2 23 (keyC (p)) _ (by with_unfolding_all rfl) (by with_unfolding_all rfl) Try.underlying23 rfl (Try.sizeKey _ Lp.out) E3.out ?_))
  refine (C9.out _).mono ?_
  rintro e w4 ⟨rfl, b4⟩
  have E4 := Lib.hid (E3.out.call b4)
  clear b4 E3
  go_wp2_with (first
    | ((with_reducible refine wpE_alloc (o := ⟨some 5, _, _, _, _, _⟩) rfl 45 rfl (natsC (zero5)) Try.zero5e E4.out ?_); intro g4 w5 T5; have E5 := Lib.hid T5; clear T5)
    | ((with_reducible refine wpE_store (o := ⟨none, _, _, _, _, _⟩) rfl 45 (.tmp 5) (.tmp 10) rfl 0 g4 45 (natsC (zero5)) (natsC (elemL v9)) (by with_unfolding_all rfl) (by with_unfolding_all rfl) (by with_unfolding_all rfl) (natsC_same zero5_length (elemL_length _)) (sizeN Try.sz5e _ (elemL_length _)) (natsC_one _) E5.out ?_); intro w6 T6; simp only [List.set_cons_zero] at T6; have E6 := Lib.hid T6; clear T6))
  refine region_class_tail 5 _ E6.out.drew (by kernel_rfl) (by kernel_rfl) ?_
  simp only [List.take_succ_cons, List.take_zero, List.drop_succ_cons, List.drop_zero]
  refine qE_load (by rfl) _ (.tmp 2) rfl 3 g1 23 (keyC (s)) _ rfl rfl Try.underlying23 rfl (Try.sizeKey _ Ls.out) ?_
  simp only [Act.put, List.setIfInBounds_toArray, List.set_cons_zero, List.set_cons_succ]
  refine q_call (by rfl) 10 _ (fun W => by go_simp) (fun W hW => hW.calls (C13.out W)) ?_
  simp only [Act.put, List.setIfInBounds_toArray, List.set_cons_zero, List.set_cons_succ]
  refine qE_load (by rfl) _ (.tmp 5) rfl 0 g4 45 (natsC (elemL v9)) _ rfl rfl Try.underlying45 rfl (sizeN Try.sz5e _ (elemL_length _)) ?_
  simp only [Act.put, List.setIfInBounds_toArray, List.set_cons_zero, List.set_cons_succ]
  refine q_call (by rfl) 24 _ (fun W => by go_simp) (fun W hW => hW.calls (C15.out W)) ?_
  simp only [Act.put, List.setIfInBounds_toArray, List.set_cons_zero, List.set_cons_succ]
  refine q_call (by rfl) 25 _ (fun W => by go_simp) (fun W hW => hW.calls (C16.out W)) ?_
  simp only [Act.put, List.setIfInBounds_toArray, List.set_cons_zero, List.set_cons_succ]
  refine wpQuiet_nil ?_
  intro w7 T7
  have E7 := Lib.hid T7
  clear T7 E6
  go_wp2_with (first
    | ((with_reducible refine wpE_store (o := ⟨none, _, _, _, _, _⟩) rfl 23 (.tmp 4) (.tmp 16) rfl 1 g3 23 (keyC (zeroKey)) (keyC (k16)) (by with_unfolding_all rfl) (by with_unfolding_all rfl) (by with_unfolding_all rfl) (keyC_same zeroKey_length Lk16.out) (Try.sizeKey _ Lk16.out) (keyC_one _) E7.out ?_); intro w8 T8; simp only [List.set_cons_zero, List.set_cons_succ] at T8; have E8 := Lib.hid T8; clear T8))
  refine bodyPost_ret (results_cell_row rfl _ _ g3 23 (keyC (k16)) (0, 0) _ rfl (E8.out.row 1 rfl) Try.underlying23 rfl (Try.sizeKey _ Lk16.out)) rfl ⟨?_, E8.out.below⟩
  rw [HR.out]
set_option maxHeartbeats 2000000 in
theorem Public_any (s : List UInt8) (hs : s.length = 32) (w : World) : Calls Try.prog 21 #[.agg (keyC s)] w (RetV w (.agg (keyC (rawK s nineK)))) := by
  have Ls := Lib.hid hs
  obtain ⟨k5, hk5⟩ : ∃ v, v = rawK s nineK := ⟨_, rfl⟩
  have Lk5 : Hid (k5.length = 32) := by show _ = _; rw [hk5]; exact rawK_length _ _
  have C5 : Hid (∀ w, Calls Try.prog 11 #[.agg (keyC (s)), .agg #[.int .u8 9, .int .u8 0, .int .u8 0, .int .u8 0, .int .u8 0, .int .u8 0, .int .u8 0, .int .u8 0, .int .u8 0, .int .u8 0, .int .u8 0, .int .u8 0, .int .u8 0, .int .u8 0, .int .u8 0, .int .u8 0, .int .u8 0, .int .u8 0, .int .u8 0, .int .u8 0, .int .u8 0, .int .u8 0, .int .u8 0, .int .u8 0, .int .u8 0, .int .u8 0, .int .u8 0, .int .u8 0, .int .u8 0, .int .u8 0, .int .u8 0, .int .u8 0]] w (RetV w (.agg (keyC (k5))))) := by rw [hk5]; exact fun w => by have h := Raw_any s nineK hs nineK_length w; rw [nineLit] at h; exact h
  have HR : Hid (keyC (rawK s nineK) = (keyC (k5))) := by show _ = _; rw [hk5]
  clear hk5
  have E0 := Lib.hid (Env.start w)
  go_enter Try.func21, Try.ntmps21
  go_wp2_with (first
    | ((with_reducible refine wpE_box (o := ⟨some 1, _, _, _, _, _⟩) rfl 23 (.tmp 0) rfl (keyC (s)) (by with_unfolding_all rfl) E0.out ?_); intro g1 w1 T1; have E1 := Lib.hid T1; clear T1)
    | ((with_reducible refine wpE_alloc (o := ⟨some 2, _, _, _, _, _⟩) rfl 23 rfl (keyC (zeroKey)) Try.zeroK E1.out ?_); intro g2 w2 T2; have E2 := Lib.hid T2; clear T2)
    | (with_reducible refine wpE_load (o := ⟨some 3, _, _, _, _, _⟩) rfl 23 (.tmp 1) rfl 1 g1 23 (keyC (s)) _ (by with_unfolding_all rfl) (by with_unfolding_all rfl) Try.underlying23 rfl (Try.sizeKey _ Ls.out) E2.out ?_))
  refine (C5.out _).mono ?_
  rintro e w3 ⟨rfl, b3⟩
  have E3 := Lib.hid (E2.out.call b3)
  clear b3 E2
  go_wp2_with (first
    | ((with_reducible refine wpE_store (o := ⟨none, _, _, _, _, _⟩) rfl 23 (.tmp 2) (.tmp 5) rfl 0 g2 23 (keyC (zeroKey)) (keyC (k5)) (by with_unfolding_all rfl) (by with_unfolding_all rfl) (by with_unfolding_all rfl) (keyC_same zeroKey_length Lk5.out) (Try.sizeKey _ Lk5.out) (keyC_one _) E3.out ?_); intro w4 T4; simp only [List.set_cons_zero] at T4; have E4 := Lib.hid T4; clear T4))
  refine bodyPost_ret (results_cell_row rfl _ _ g2 23 (keyC (k5)) (0, 0) _ rfl (E4.out.row 0 rfl) Try.underlying23 rfl (Try.sizeKey _ Lk5.out)) rfl ⟨?_, E4.out.below⟩
  rw [HR.out]
end Go.Proofs.Ytpgjcmccfpjmoaa
