/-
  OtsSigns: for every input the call returns true, and each argument reads as it read before. Conditions: none beyond the given statement's own (the package-level tables that its row lists hold what the program's text lays: the card ties that).
-/
import Derived.Test.YtfnmglicfgkmjaaDoorQOtsAM
import Derived.Test.YtfnmglicfgkmjaaDoorQOtsAO
import Derived.Test.YtfnmglicfgkmjaaDoorQOtsAB
import Derived.ProofKit
import Derived.OpenShut
import Derived.ShutString
import Derived.ChangeOld
import Derived.Deep.DeepHandedRow
section
namespace Go.Proofs.YtfnmglicfgkmjaaDoor
open Go.RowKit
set_option linter.unusedVariables false
set_option maxRecDepth 20000

set_option maxHeartbeats 8000000 in
theorem otsSigns_walk (w : World) (hq : Tabs w) (s : List UInt8) (hs : s.length = 32) (t : List UInt8) (ht : t.length = 32) (d : List UInt8) (hd : d.length = 32) (first : Bool) :
    Calls Tryd.prog 4 #[keyV s, keyV t, keyV d, .bool first] w (RetV w (.bool true)) := by
  have HQ := Lib.hid hq
  have LS := Lib.hid hs
  have LT := Lib.hid ht
  have LDG := Lib.hid hd
  have X0 : Hid (Value.agg #[.int .u8 0, .int .u8 0, .int .u8 0, .int .u8 0, .int .u8 0, .int .u8 0, .int .u8 0, .int .u8 0, .int .u8 0, .int .u8 0, .int .u8 0, .int .u8 0, .int .u8 0, .int .u8 0, .int .u8 0, .int .u8 0, .int .u8 0, .int .u8 0, .int .u8 0, .int .u8 0, .int .u8 0, .int .u8 0, .int .u8 0, .int .u8 0, .int .u8 0, .int .u8 0, .int .u8 0, .int .u8 0, .int .u8 0, .int .u8 0, .int .u8 0, .int .u8 0] = .agg (keyC zeroKey)) := rfl
  obtain ⟨pk, hpk⟩ : ∃ k, k = pubB s t := ⟨_, rfl⟩
  have HPK := Lib.hid hpk
  have LP : Hid (pk.length = 32) := by show _ = _; rw [hpk]; exact digestB_length _
  obtain ⟨SL, hSL⟩ : ∃ l, l = signL s t d := ⟨_, rfl⟩
  have HSL := Lib.hid hSL
  have LSL : Hid (SL.length = 67 ∧ ∀ l ∈ SL, l.length = 32) := by rw [hSL]; exact ⟨by simp [signL], signL_len _ _ _⟩
  have heq := fun W => Tryd.eqKeyIn pk pk LP.out LP.out W
  rw [beq_self_eq_true] at heq
  have HEQ := Lib.hid heq
  have E0 := Lib.hid (Env.start w)
  clear hq hs ht hd hpk hSL heq
  cases first
  · go_enter Tryd.func4, Tryd.ntmps4
    go_wp2_with (first
      | ((with_reducible refine wpE_box (o := ⟨some 4, _, _, _, _, _⟩) rfl 23 (.tmp 0) rfl (keyC s) (by with_unfolding_all rfl) E0.out ?_); intro g4 w1 T1; have E1 := Lib.hid T1; clear T1)
      | ((with_reducible refine wpE_box (o := ⟨some 5, _, _, _, _, _⟩) rfl 23 (.tmp 1) rfl (keyC t) (by with_unfolding_all rfl) E1.out ?_); intro g5 w2 T2; have E2 := Lib.hid T2; clear T2)
      | ((with_reducible refine wpE_box (o := ⟨some 6, _, _, _, _, _⟩) rfl 23 (.tmp 2) rfl (keyC d) (by with_unfolding_all rfl) E2.out ?_); intro g6 w3 T3; have E3 := Lib.hid T3; clear T3))
    refine (otsAwake_any _ (HQ.out.below E3.out.below)).mono ?_
    rintro e w4 ⟨rfl, b4⟩
    have E4 := Lib.hid (E3.out.call b4)
    clear b4 E3 E2 E1
    go_wp2_with fail
    refine (New_any _ false).mono ?_
    intro e w5 h
    obtain ⟨g, he, n5⟩ := h
    subst he
    have E5 : Hid (Env w ((g, 66, mC 0) :: [(g6, 23, keyC d), (g5, 23, keyC t), (g4, 23, keyC s)]) w5) := E4.out.new n5
    clear n5 E4
    go_wp2_with (first
      | ((with_reducible refine wpE_box (o := ⟨some 20, _, _, _, _, _⟩) rfl 32 (.tmp 19) rfl (logC 0) (by with_unfolding_all rfl) E5.out ?_); intro gl w6 T6; have E6 := Lib.hid T6; clear T6)
      | (with_reducible refine wpE_load (o := ⟨some 22, _, _, _, _, _⟩) rfl 23 (.tmp 4) rfl 4 g4 23 (keyC s) _ (by with_unfolding_all rfl) (by with_unfolding_all rfl) Tryd.underlying23 rfl (Tryd.sizeKey _ LS.out) E6.out ?_)
      | (with_reducible refine wpE_load (o := ⟨some 23, _, _, _, _, _⟩) rfl 23 (.tmp 5) rfl 3 g5 23 (keyC t) _ (by with_unfolding_all rfl) (by with_unfolding_all rfl) Tryd.underlying23 rfl (Tryd.sizeKey _ LT.out) E6.out ?_))
    refine (signer_env w _ _ g s t LS.out LT.out E6.out).mono ?_
    intro e w7 h
    obtain ⟨b, he, h7⟩ := h
    subst he
    have E7 := Lib.hid h7
    clear h7 E6 E5
    go_wp2_with (first
      | ((with_reducible refine wpE_alloc (o := ⟨some 13, _, _, _, _, _⟩) rfl 23 rfl (keyC zeroKey) Tryd.zeroK E7.out ?_); intro g13 w8 T8; have E8 := Lib.hid T8; clear T8)
      | ((with_reducible refine wpE_store (o := ⟨none, _, _, _, _, _⟩) rfl 23 (.tmp 13) (.tmp 27) rfl 0 g13 23 (keyC zeroKey) (keyC zeroKey) (by with_unfolding_all rfl) (by with_unfolding_all rfl) (by with_unfolding_all exact X0.out) rfl (Tryd.sizeKey _ zeroKey_length) (keyC_one _) E8.out ?_); intro w9 T9; simp only [List.set_cons_zero] at T9; have E9 := Lib.hid T9; clear T9)
      | (with_reducible refine wpE_load (o := ⟨some 32, _, _, _, _, _⟩) rfl 23 (.tmp 6) rfl 4 g6 23 (keyC d) _ (by with_unfolding_all rfl) (by with_unfolding_all rfl) Tryd.underlying23 rfl (Tryd.sizeKey _ LDG.out) E9.out ?_))
    have hcall := sign_env w _ HQ.out _ 3 g 0 1 b s t zeroKey d 0 0 LS.out LT.out LDG.out E9.out rfl (by omega) rfl
    rw [← HSL.out] at hcall
    refine hcall.mono ?_
    clear hcall
    intro e w12 h
    obtain ⟨n12, ge, hn12, he, h12⟩ := h
    subst he
    simp only [List.set_cons_zero, List.set_cons_succ] at h12
    have E12 := Lib.hid h12
    clear h12 E9 E8 E7
    go_wp2_with fail
    have hcall := public_first w _ HQ.out _ 4 g n12 2 b s t zeroKey LS.out LT.out zeroKey_length E12.out rfl (by omega) rfl
    rw [← HPK.out] at hcall
    refine hcall.mono ?_
    clear hcall
    intro e w13 h
    obtain ⟨n13, hn13, he, h13⟩ := h
    subst he
    simp only [List.set_cons_zero, List.set_cons_succ] at h13
    have E13 := Lib.hid h13
    clear h13 E12
    go_wp2_with (first
      | ((with_reducible refine wpE_alloc (o := ⟨some 15, _, _, _, _, _⟩) rfl 23 rfl (keyC zeroKey) Tryd.zeroK E13.out ?_); intro g15 w14 T14; have E14 := Lib.hid T14; clear T14)
      | ((with_reducible refine wpE_store (o := ⟨none, _, _, _, _, _⟩) rfl 23 (.tmp 15) (.tmp 35) rfl 0 g15 23 (keyC zeroKey) (keyC pk) (by with_unfolding_all rfl) (by with_unfolding_all rfl) (by with_unfolding_all rfl) (keyC_same zeroKey_length LP.out) (Tryd.sizeKey _ LP.out) (keyC_one _) E14.out ?_); intro w15 T15; simp only [List.set_cons_zero] at T15; have E15 := Lib.hid T15; clear T15)
      | (with_reducible refine wpE_load (o := ⟨some 37, _, _, _, _, _⟩) rfl 23 (.tmp 4) rfl 8 g4 23 (keyC s) _ (by with_unfolding_all rfl) (by with_unfolding_all rfl) Tryd.underlying23 rfl (Tryd.sizeKey _ LS.out) E15.out ?_)
      | (with_reducible refine wpE_load (o := ⟨some 38, _, _, _, _, _⟩) rfl 23 (.tmp 5) rfl 7 g5 23 (keyC t) _ (by with_unfolding_all rfl) (by with_unfolding_all rfl) Tryd.underlying23 rfl (Tryd.sizeKey _ LT.out) E15.out ?_))
    have hcall := refPublic_env w _ _ 4 gl 0 s t LS.out LT.out E15.out rfl (by omega)
    rw [← HPK.out] at hcall
    refine hcall.mono ?_
    clear hcall
    intro e w16 h
    obtain ⟨n16, hn16, he, h16⟩ := h
    subst he
    simp only [List.set_cons_zero, List.set_cons_succ] at h16
    have E16 := Lib.hid h16
    clear h16 E15 E14 E13
    have hgd := Tryd.eqGuardKey
    have heq := HEQ.out
    go_wp2_with (first
      | ((with_reducible refine wpE_alloc (o := ⟨some 16, _, _, _, _, _⟩) rfl 23 rfl (keyC zeroKey) Tryd.zeroK E16.out ?_); intro g16 w17 T17; have E17 := Lib.hid T17; clear T17)
      | ((with_reducible refine wpE_store (o := ⟨none, _, _, _, _, _⟩) rfl 23 (.tmp 16) (.tmp 39) rfl 0 g16 23 (keyC zeroKey) (keyC pk) (by with_unfolding_all rfl) (by with_unfolding_all rfl) (by with_unfolding_all rfl) (keyC_same zeroKey_length LP.out) (Tryd.sizeKey _ LP.out) (keyC_one _) E17.out ?_); intro w18 T18; simp only [List.set_cons_zero] at T18; have E18 := Lib.hid T18; clear T18)
      | (with_reducible refine wpListG_load_row (o := ⟨some 42, _, _, _, _, _⟩) 23 (.tmp 15) rfl (by with_unfolding_all rfl) g15 (by with_unfolding_all rfl) 23 (keyC pk) (.array 32 5) (by with_unfolding_all exact E18.out.row 1 rfl) Tryd.underlying23 rfl (Tryd.sizeKey _ LP.out) ?_)
      | (with_reducible refine wpListG_load_row (o := ⟨some 43, _, _, _, _, _⟩) 23 (.tmp 16) rfl (by with_unfolding_all rfl) g16 (by with_unfolding_all rfl) 23 (keyC pk) (.array 32 5) (by with_unfolding_all exact E18.out.row 0 rfl) Tryd.underlying23 rfl (Tryd.sizeKey _ LP.out) ?_)
      | (with_reducible refine wpListG_load_row (o := ⟨some 58, _, _, _, _, _⟩) 23 (.tmp 4) rfl (by with_unfolding_all rfl) g4 (by with_unfolding_all rfl) 23 (keyC s) (.array 32 5) (by with_unfolding_all exact E18.out.row 9 rfl) Tryd.underlying23 rfl (Tryd.sizeKey _ LS.out) ?_)
      | (with_reducible refine wpListG_load_row (o := ⟨some 59, _, _, _, _, _⟩) 23 (.tmp 5) rfl (by with_unfolding_all rfl) g5 (by with_unfolding_all rfl) 23 (keyC t) (.array 32 5) (by with_unfolding_all exact E18.out.row 8 rfl) Tryd.underlying23 rfl (Tryd.sizeKey _ LT.out) ?_)
      | (with_reducible refine wpListG_load_row (o := ⟨some 60, _, _, _, _, _⟩) 23 (.tmp 6) rfl (by with_unfolding_all rfl) g6 (by with_unfolding_all rfl) 23 (keyC d) (.array 32 5) (by with_unfolding_all exact E18.out.row 7 rfl) Tryd.underlying23 rfl (Tryd.sizeKey _ LDG.out) ?_))
    have hcall := refSign_env w _ _ 5 gl n16 s t d LS.out LT.out LDG.out E18.out rfl (by omega)
    rw [← HSL.out] at hcall
    refine hcall.mono ?_
    clear hcall
    intro e w19 h
    obtain ⟨n19, gr, cp, cur, hn19, he, h19, htake⟩ := h
    subst he
    simp only [List.set_cons_zero, List.set_cons_succ] at h19
    have E19 := Lib.hid h19
    clear h19 E18 E17 E16
    go_wp2_with fail
    refine (refKeys_env w _ _ 3 0 ge gr cp cur SL LSL.out.2 LSL.out.1 E19.out rfl rfl htake).mono ?_
    intro e w20 h
    obtain ⟨he, h20⟩ := h
    subst he
    go_wp2_with fail
    go_ret
    exact h20.ret _
  · go_enter Tryd.func4, Tryd.ntmps4
    go_wp2_with (first
      | ((with_reducible refine wpE_box (o := ⟨some 4, _, _, _, _, _⟩) rfl 23 (.tmp 0) rfl (keyC s) (by with_unfolding_all rfl) E0.out ?_); intro g4 w1 T1; have E1 := Lib.hid T1; clear T1)
      | ((with_reducible refine wpE_box (o := ⟨some 5, _, _, _, _, _⟩) rfl 23 (.tmp 1) rfl (keyC t) (by with_unfolding_all rfl) E1.out ?_); intro g5 w2 T2; have E2 := Lib.hid T2; clear T2)
      | ((with_reducible refine wpE_box (o := ⟨some 6, _, _, _, _, _⟩) rfl 23 (.tmp 2) rfl (keyC d) (by with_unfolding_all rfl) E2.out ?_); intro g6 w3 T3; have E3 := Lib.hid T3; clear T3))
    refine (otsAwake_any _ (HQ.out.below E3.out.below)).mono ?_
    rintro e w4 ⟨rfl, b4⟩
    have E4 := Lib.hid (E3.out.call b4)
    clear b4 E3 E2 E1
    go_wp2_with fail
    refine (New_any _ false).mono ?_
    intro e w5 h
    obtain ⟨g, he, n5⟩ := h
    subst he
    have E5 : Hid (Env w ((g, 66, mC 0) :: [(g6, 23, keyC d), (g5, 23, keyC t), (g4, 23, keyC s)]) w5) := E4.out.new n5
    clear n5 E4
    go_wp2_with (first
      | ((with_reducible refine wpE_box (o := ⟨some 20, _, _, _, _, _⟩) rfl 32 (.tmp 19) rfl (logC 0) (by with_unfolding_all rfl) E5.out ?_); intro gl w6 T6; have E6 := Lib.hid T6; clear T6)
      | (with_reducible refine wpE_load (o := ⟨some 22, _, _, _, _, _⟩) rfl 23 (.tmp 4) rfl 4 g4 23 (keyC s) _ (by with_unfolding_all rfl) (by with_unfolding_all rfl) Tryd.underlying23 rfl (Tryd.sizeKey _ LS.out) E6.out ?_)
      | (with_reducible refine wpE_load (o := ⟨some 23, _, _, _, _, _⟩) rfl 23 (.tmp 5) rfl 3 g5 23 (keyC t) _ (by with_unfolding_all rfl) (by with_unfolding_all rfl) Tryd.underlying23 rfl (Tryd.sizeKey _ LT.out) E6.out ?_))
    refine (signer_env w _ _ g s t LS.out LT.out E6.out).mono ?_
    intro e w7 h
    obtain ⟨b, he, h7⟩ := h
    subst he
    have E7 := Lib.hid h7
    clear h7 E6 E5
    go_wp2_with (first
      | ((with_reducible refine wpE_alloc (o := ⟨some 13, _, _, _, _, _⟩) rfl 23 rfl (keyC zeroKey) Tryd.zeroK E7.out ?_); intro g13 w8 T8; have E8 := Lib.hid T8; clear T8)
      | ((with_reducible refine wpE_store (o := ⟨none, _, _, _, _, _⟩) rfl 23 (.tmp 13) (.tmp 27) rfl 0 g13 23 (keyC zeroKey) (keyC zeroKey) (by with_unfolding_all rfl) (by with_unfolding_all rfl) (by with_unfolding_all exact X0.out) rfl (Tryd.sizeKey _ zeroKey_length) (keyC_one _) E8.out ?_); intro w9 T9; simp only [List.set_cons_zero] at T9; have E9 := Lib.hid T9; clear T9))
    have hcall := public_first w _ HQ.out _ 3 g 0 1 b s t zeroKey LS.out LT.out zeroKey_length E9.out rfl (by omega) rfl
    rw [← HPK.out] at hcall
    refine hcall.mono ?_
    clear hcall
    intro e w10 h
    obtain ⟨n10, hn10, he, h10⟩ := h
    subst he
    simp only [List.set_cons_zero, List.set_cons_succ] at h10
    have E10 := Lib.hid h10
    clear h10 E9 E8 E7
    go_wp2_with (first
      | ((with_reducible refine wpE_store (o := ⟨none, _, _, _, _, _⟩) rfl 23 (.tmp 13) (.tmp 30) rfl 0 g13 23 (keyC zeroKey) (keyC pk) (by with_unfolding_all rfl) (by with_unfolding_all rfl) (by with_unfolding_all rfl) (keyC_same zeroKey_length LP.out) (Tryd.sizeKey _ LP.out) (keyC_one _) E10.out ?_); intro w11 T11; simp only [List.set_cons_zero] at T11; have E11 := Lib.hid T11; clear T11)
      | (with_reducible refine wpE_load (o := ⟨some 32, _, _, _, _, _⟩) rfl 23 (.tmp 6) rfl 4 g6 23 (keyC d) _ (by with_unfolding_all rfl) (by with_unfolding_all rfl) Tryd.underlying23 rfl (Tryd.sizeKey _ LDG.out) E11.out ?_))
    have hcall := sign_env w _ HQ.out _ 3 g n10 1 b s t pk d 1 0 LS.out LT.out LDG.out E11.out rfl (by omega) rfl
    rw [← HSL.out] at hcall
    refine hcall.mono ?_
    clear hcall
    intro e w12 h
    obtain ⟨n12, ge, hn12, he, h12⟩ := h
    subst he
    simp only [List.set_cons_zero, List.set_cons_succ] at h12
    have E12 := Lib.hid h12
    clear h12 E11 E10
    go_wp2_with fail
    refine (public_again w _ _ 2 b g s t pk LS.out LT.out LP.out E12.out rfl).mono ?_
    intro e w13 h
    obtain ⟨he, h13⟩ := h
    subst he
    have E13 := Lib.hid h13
    clear h13 E12
    go_wp2_with (first
      | ((with_reducible refine wpE_alloc (o := ⟨some 15, _, _, _, _, _⟩) rfl 23 rfl (keyC zeroKey) Tryd.zeroK E13.out ?_); intro g15 w14 T14; have E14 := Lib.hid T14; clear T14)
      | ((with_reducible refine wpE_store (o := ⟨none, _, _, _, _, _⟩) rfl 23 (.tmp 15) (.tmp 35) rfl 0 g15 23 (keyC zeroKey) (keyC pk) (by with_unfolding_all rfl) (by with_unfolding_all rfl) (by with_unfolding_all rfl) (keyC_same zeroKey_length LP.out) (Tryd.sizeKey _ LP.out) (keyC_one _) E14.out ?_); intro w15 T15; simp only [List.set_cons_zero] at T15; have E15 := Lib.hid T15; clear T15)
      | (with_reducible refine wpE_load (o := ⟨some 37, _, _, _, _, _⟩) rfl 23 (.tmp 4) rfl 8 g4 23 (keyC s) _ (by with_unfolding_all rfl) (by with_unfolding_all rfl) Tryd.underlying23 rfl (Tryd.sizeKey _ LS.out) E15.out ?_)
      | (with_reducible refine wpE_load (o := ⟨some 38, _, _, _, _, _⟩) rfl 23 (.tmp 5) rfl 7 g5 23 (keyC t) _ (by with_unfolding_all rfl) (by with_unfolding_all rfl) Tryd.underlying23 rfl (Tryd.sizeKey _ LT.out) E15.out ?_))
    have hcall := refPublic_env w _ _ 4 gl 0 s t LS.out LT.out E15.out rfl (by omega)
    rw [← HPK.out] at hcall
    refine hcall.mono ?_
    clear hcall
    intro e w16 h
    obtain ⟨n16, hn16, he, h16⟩ := h
    subst he
    simp only [List.set_cons_zero, List.set_cons_succ] at h16
    have E16 := Lib.hid h16
    clear h16 E15 E14 E13
    have hgd := Tryd.eqGuardKey
    have heq := HEQ.out
    go_wp2_with (first
      | ((with_reducible refine wpE_alloc (o := ⟨some 16, _, _, _, _, _⟩) rfl 23 rfl (keyC zeroKey) Tryd.zeroK E16.out ?_); intro g16 w17 T17; have E17 := Lib.hid T17; clear T17)
      | ((with_reducible refine wpE_store (o := ⟨none, _, _, _, _, _⟩) rfl 23 (.tmp 16) (.tmp 39) rfl 0 g16 23 (keyC zeroKey) (keyC pk) (by with_unfolding_all rfl) (by with_unfolding_all rfl) (by with_unfolding_all rfl) (keyC_same zeroKey_length LP.out) (Tryd.sizeKey _ LP.out) (keyC_one _) E17.out ?_); intro w18 T18; simp only [List.set_cons_zero] at T18; have E18 := Lib.hid T18; clear T18)
      | (with_reducible refine wpListG_load_row (o := ⟨some 42, _, _, _, _, _⟩) 23 (.tmp 15) rfl (by with_unfolding_all rfl) g15 (by with_unfolding_all rfl) 23 (keyC pk) (.array 32 5) (by with_unfolding_all exact E18.out.row 1 rfl) Tryd.underlying23 rfl (Tryd.sizeKey _ LP.out) ?_)
      | (with_reducible refine wpListG_load_row (o := ⟨some 43, _, _, _, _, _⟩) 23 (.tmp 16) rfl (by with_unfolding_all rfl) g16 (by with_unfolding_all rfl) 23 (keyC pk) (.array 32 5) (by with_unfolding_all exact E18.out.row 0 rfl) Tryd.underlying23 rfl (Tryd.sizeKey _ LP.out) ?_)
      | (with_reducible refine wpListG_load_row (o := ⟨some 50, _, _, _, _, _⟩) 23 (.tmp 13) rfl (by with_unfolding_all rfl) g13 (by with_unfolding_all rfl) 23 (keyC pk) (.array 32 5) (by with_unfolding_all exact E18.out.row 3 rfl) Tryd.underlying23 rfl (Tryd.sizeKey _ LP.out) ?_)
      | (with_reducible refine wpListG_load_row (o := ⟨some 51, _, _, _, _, _⟩) 23 (.tmp 16) rfl (by with_unfolding_all rfl) g16 (by with_unfolding_all rfl) 23 (keyC pk) (.array 32 5) (by with_unfolding_all exact E18.out.row 0 rfl) Tryd.underlying23 rfl (Tryd.sizeKey _ LP.out) ?_)
      | (with_reducible refine wpListG_load_row (o := ⟨some 58, _, _, _, _, _⟩) 23 (.tmp 4) rfl (by with_unfolding_all rfl) g4 (by with_unfolding_all rfl) 23 (keyC s) (.array 32 5) (by with_unfolding_all exact E18.out.row 9 rfl) Tryd.underlying23 rfl (Tryd.sizeKey _ LS.out) ?_)
      | (with_reducible refine wpListG_load_row (o := ⟨some 59, _, _, _, _, _⟩) 23 (.tmp 5) rfl (by with_unfolding_all rfl) g5 (by with_unfolding_all rfl) 23 (keyC t) (.array 32 5) (by with_unfolding_all exact E18.out.row 8 rfl) Tryd.underlying23 rfl (Tryd.sizeKey _ LT.out) ?_)
      | (with_reducible refine wpListG_load_row (o := ⟨some 60, _, _, _, _, _⟩) 23 (.tmp 6) rfl (by with_unfolding_all rfl) g6 (by with_unfolding_all rfl) 23 (keyC d) (.array 32 5) (by with_unfolding_all exact E18.out.row 7 rfl) Tryd.underlying23 rfl (Tryd.sizeKey _ LDG.out) ?_))
    have hcall := refSign_env w _ _ 5 gl n16 s t d LS.out LT.out LDG.out E18.out rfl (by omega)
    rw [← HSL.out] at hcall
    refine hcall.mono ?_
    clear hcall
    intro e w19 h
    obtain ⟨n19, gr, cp, cur, hn19, he, h19, htake⟩ := h
    subst he
    simp only [List.set_cons_zero, List.set_cons_succ] at h19
    have E19 := Lib.hid h19
    clear h19 E18 E17 E16
    go_wp2_with fail
    refine (refKeys_env w _ _ 3 0 ge gr cp cur SL LSL.out.2 LSL.out.1 E19.out rfl rfl htake).mono ?_
    intro e w20 h
    obtain ⟨he, h20⟩ := h
    subst he
    go_wp2_with fail
    go_ret
    exact h20.ret _
end Go.Proofs.YtfnmglicfgkmjaaDoor
end
section
namespace Go.Proofs.YtfnmglicfgkmjaaDoor.otsSigns
open Go.ChangeShapes Go.WideShapes Go.ChangeAt Go.RowKit
open Go.ChangeMaps (open_string shut_string)
set_option linter.unusedVariables false

theorem own : ownKnob Tryd.prog.godebug = none := by kernel_rfl
theorem laidOut : laidOutB Tryd.prog = true := by kernel_rfl

theorem laid_met (os : Os) : laidMet Tryd.prog Rows.otsSignsRow.laid ((laidWorld os).forCall (fun _ _ => 0) ⟨#[], #[.agg (List.replicate 32 (Value.int .u8 0)).toArray, .agg (List.replicate 32 (Value.int .u8 0)).toArray, .agg (List.replicate 32 (Value.int .u8 0)).toArray, .bool false], []⟩).memory :=
  laidMet_of_run' 8 (by kernel_rfl) (by kernel_rfl)
theorem reads (os : Os) {H : Type} (enc : TypeId × Value → H) : ∃ places, DataW.whole enc Tryd.prog ((laidWorld os).forCall (fun _ _ => 0) ⟨#[], #[.agg (List.replicate 32 (Value.int .u8 0)).toArray, .agg (List.replicate 32 (Value.int .u8 0)).toArray, .agg (List.replicate 32 (Value.int .u8 0)).toArray, .bool false], []⟩).memory Tryd.f4.params.toList Rows.otsSignsSpec.vars false #[.agg (List.replicate 32 (Value.int .u8 0)).toArray, .agg (List.replicate 32 (Value.int .u8 0)).toArray, .agg (List.replicate 32 (Value.int .u8 0)).toArray, .bool false].toList 8 = some ([.agg (List.replicate 32 (.lit (.int .u8 0))), .agg (List.replicate 32 (.lit (.int .u8 0))), .agg (List.replicate 32 (.lit (.int .u8 0))), .lit (.bool false)], [], places) :=
  ⟨[], by kernel_rfl⟩

set_option maxRecDepth 100000 in
theorem contract (H : Type) (enc : TypeId × Value → H) (W : World) (base : Nat) (args : Array Value) (ds gs : List (DataW H)) (before : List MemPlace)
    (hval0 : ∀ (j : Nat) t v, Tryd.f4.params[j]? = some t → args[j]? = some v → Value.okWide Tryd.prog W .any base t v)
    (hW : DataW.Whole enc Tryd.prog Tryd.f4.params.toList Rows.otsSignsSpec.vars false W args.toList ds gs before) (hL : laidMetH Tryd.prog Rows.otsSignsRow.laid W) :
    Calls Tryd.prog 4 args W fun e W' => ∃ v, e = .returned v ∧ Rows.otsSignsSpec.post enc Tryd.prog Tryd.f4 false true false false W args v W' := by
  have hq := tables hL
  have hval : ∀ (j : Nat) t v, Tryd.f4.params[j]? = some t → args[j]? = some v → Value.okWide Tryd.prog W .any base t v := hval0
  have hW' := hW
  obtain ⟨p, q, hA0, hV, rfl, hfz, hnd⟩ := hW
  have hA : DataW.TrodAll enc Tryd.prog W 0 (fun _ => true) true Tryd.f4.params.toList args.toList ds p := hA0
  rw [Tryd.params4] at hA hval
  obtain ⟨v0, vs0, d0, ds0, p0, q0, hargs, rfl, rfl, h0, r0⟩ := trodAll_cons hA
  obtain ⟨v1, vs1, d1, ds1, p1, q1, rfl, rfl, rfl, h1, r1⟩ := trodAll_cons r0
  obtain ⟨v2, vs2, d2, ds2, p2, q2, rfl, rfl, rfl, h2, r2⟩ := trodAll_cons r1
  obtain ⟨v3, vs3, d3, ds3, p3, q3, rfl, rfl, rfl, h3, r3⟩ := trodAll_cons r2
  obtain ⟨rfl, rfl, rfl⟩ := trodAll_nil r3
  obtain rfl : args = #[v0, v1, v2, v3] := by cases args; simp_all
  obtain ⟨rfl, rfl⟩ := trodVars_none hV
  have k0 := h0
  have lt0 : ∀ x ∈ p0, x.block < W.heap.size := by obtain ⟨m, hm⟩ := k0; exact DataW.trod_lt m _ _ _ hm
  obtain ⟨l0, rfl, w0⟩ := open_key Tryd.underlying23 Tryd.underlying5 (by kernel_rfl) (by kernel_rfl) (hval 0 23 v0 rfl rfl) h0
  have k1 := h1
  have lt1 : ∀ x ∈ p1, x.block < W.heap.size := by obtain ⟨m, hm⟩ := k1; exact DataW.trod_lt m _ _ _ hm
  obtain ⟨l1, rfl, w1⟩ := open_key Tryd.underlying23 Tryd.underlying5 (by kernel_rfl) (by kernel_rfl) (hval 1 23 v1 rfl rfl) h1
  have k2 := h2
  have lt2 : ∀ x ∈ p2, x.block < W.heap.size := by obtain ⟨m, hm⟩ := k2; exact DataW.trod_lt m _ _ _ hm
  obtain ⟨l2, rfl, w2⟩ := open_key Tryd.underlying23 Tryd.underlying5 (by kernel_rfl) (by kernel_rfl) (hval 2 23 v2 rfl rfl) h2
  obtain ⟨a3, rfl, rfl, rfl⟩ := open_bool Tryd.underlying4 (hval 3 4 v3 rfl rfl) h3
  clear hA0 hval0
  refine (otsSigns_walk W hq l0 w0 l1 w1 l2 w2 a3).mono fun e W' ⟨he, bel⟩ => ?_
  subst he
  exact ⟨_, rfl, _, _, _, [], _, [], hW', trodAll_mk1 (shut_bool Tryd.underlying4 _), (trodAll_cons_mk (Below.trod laidOut (by kernel_rfl) (of_decide_eq_true (by kernel_rfl)) k0 bel lt0) (trodAll_cons_mk (Below.trod laidOut (by kernel_rfl) (of_decide_eq_true (by kernel_rfl)) k1 bel lt1) (trodAll_cons_mk (Below.trod laidOut (by kernel_rfl) (of_decide_eq_true (by kernel_rfl)) k2 bel lt2) (trodAll_cons_mk (shut_bool Tryd.underlying4 a3) trodAll_mk0)))), rfl, bel.frame _, fun h => by cases h⟩

set_option maxRecDepth 100000 in
theorem lifted (os : Os) (started : os.Started) (H : Type) (enc : TypeId × Value → H) (F : Stop.Interp) :
    ReturnsInHanded {} Tryd.checked os 4 .any ((OpenSpec.ofChange Rows.otsSignsSpec).preRow enc Tryd.prog Tryd.f4 Rows.otsSignsRow.domain false Rows.otsSignsRow.laid) (((OpenSpec.ofChange Rows.otsSignsSpec).at F).post enc Tryd.prog Tryd.f4 false true false false) := by
  obtain ⟨places, hx⟩ := reads os enc
  refine returnsInHanded_of_row (C := Tryd.checked) (s := OpenSpec.ofChange Rows.otsSignsSpec) own started (by kernel_rfl) Tryd.func4
    (witness_row_at (enc := enc) (C := Tryd.checked) false (laidWorld os) #[.agg (List.replicate 32 (Value.int .u8 0)).toArray, .agg (List.replicate 32 (Value.int .u8 0)).toArray, .agg (List.replicate 32 (Value.int .u8 0)).toArray, .bool false] rfl (by kernel_rfl) (by kernel_rfl) (by kernel_rfl)
      (OpenSpec.preRow_of_cond 8 hx (by kernel_rfl) (fun k hk => by cases hk) (by kernel_rfl) (laid_met os))) ?_
  intro W base args ds gs before hval hW _ _ _ hL _ _
  exact contract H enc W base args ds gs before hval hW hL

theorem said : Rows.OtsSignsSaid :=
  OpenClaim.holds_of_cond 4 Tryd.f4 rfl rfl rfl rfl rfl rfl rfl ⟨rfl, rfl, rfl, rfl, rfl⟩ rfl rfl rfl rfl rfl (by kernel_rfl) Tryd.func4 (by kernel_rfl)
    (of_decide_eq_true (by kernel_rfl)) (by unfold Func.isWrapper; first | (rw [if_pos (by decide +kernel)]; kernel_rfl) | (rw [if_neg (by decide +kernel)]; exact ⟨rfl, rfl⟩))
    (fun os started H enc _ F => by rw [OpenClaim.pre_eq_preRow]; exact lifted os started H enc F)

theorem noStand : (Tryd.f4.params.toList.all fun t => Tryd.prog.wantsStandIn t == false) = true := by kernel_rfl
theorem plain (f : FuncId) (fn : Func) (hf : Tryd.pinned.checked.prog.funcNamed "cablegram/cablegramlaw08.OtsSigns" = some f) (hfn : Tryd.pinned.checked.prog.funcs[f]? = some fn) :
    false = Tryd.pinned.checked.prog.looks [] ∧ ∀ (j : Nat) t, fn.params[j]? = some t → Tryd.pinned.checked.prog.wantsStandIn t = false := by
  obtain rfl : f = 4 := Option.some.inj ((show Tryd.prog.funcNamed "cablegram/cablegramlaw08.OtsSigns" = some 4 by kernel_rfl).symm.trans hf) |>.symm
  obtain rfl : fn = Tryd.f4 := (Option.some.inj (Tryd.func4.symm.trans hfn)).symm
  refine ⟨by kernel_rfl, fun j t ht => ?_⟩
  have hm : t ∈ Tryd.f4.params.toList := by simpa using Array.mem_of_getElem? ht
  exact beq_iff_eq.1 (List.all_eq_true.1 noStand t hm)

theorem proved : Rows.OtsSignsCardSaid :=
  Claim7.holds_tied_plain_at .later [] _ _ _ _ said (fun _ h => by cases h) (by kernel_rfl) (fun _ h => by cases h) otsSigns_row_tie rfl ⟨rfl, rfl⟩ (by kernel_rfl) rfl plain (by kernel_rfl)
#print axioms proved
end Go.Proofs.YtfnmglicfgkmjaaDoor.otsSigns
end
