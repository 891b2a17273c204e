/-
  LadderSmall, walked: the call returns true. Conditions: none beyond the law's own.
-/
import Derived.Test.YtpgjcmccfpjmoaaLadderL
import Derived.Test.YtpgjcmccfpjmoaaKeys
namespace Go.Proofs.Ytpgjcmccfpjmoaa
open Go.RowKit
set_option linter.unusedVariables false
set_option maxRecDepth 20000

def oneK : List UInt8 := 1 :: List.replicate 31 0
def minusK : List UInt8 := ((ffL 32).set 0 236).set 31 127
def eightA : List UInt8 := [224, 235, 122, 124, 59, 65, 184, 174, 22, 86, 227, 250, 241, 159, 196, 106, 218, 9, 141, 235, 156, 50, 177, 253, 134, 98, 5, 22, 95, 73, 184, 0]
def eightB : List UInt8 := [95, 156, 149, 188, 163, 80, 140, 36, 177, 208, 177, 85, 156, 131, 239, 91, 4, 68, 92, 196, 88, 28, 142, 134, 216, 34, 78, 221, 208, 159, 17, 87]
def smallL : List (List UInt8) := [zeroKey, oneK, minusK, eightA, eightB]
theorem oneLit : #[.int .u8 1, .int .u8 0, .int .u8 0, .int .u8 0, .int .u8 0, .int .u8 0, .int .u8 0, .int .u8 0, .int .u8 0, .int .u8 0, .int .u8 0, .int .u8 0, .int .u8 0, .int .u8 0, .int .u8 0, .int .u8 0, .int .u8 0, .int .u8 0, .int .u8 0, .int .u8 0, .int .u8 0, .int .u8 0, .int .u8 0, .int .u8 0, .int .u8 0, .int .u8 0, .int .u8 0, .int .u8 0, .int .u8 0, .int .u8 0, .int .u8 0, .int .u8 0] = keyC oneK := rfl
theorem eightALit : #[.int .u8 224, .int .u8 235, .int .u8 122, .int .u8 124, .int .u8 59, .int .u8 65, .int .u8 184, .int .u8 174, .int .u8 22, .int .u8 86, .int .u8 227, .int .u8 250, .int .u8 241, .int .u8 159, .int .u8 196, .int .u8 106, .int .u8 218, .int .u8 9, .int .u8 141, .int .u8 235, .int .u8 156, .int .u8 50, .int .u8 177, .int .u8 253, .int .u8 134, .int .u8 98, .int .u8 5, .int .u8 22, .int .u8 95, .int .u8 73, .int .u8 184, .int .u8 0] = keyC eightA := rfl
theorem eightBLit : #[.int .u8 95, .int .u8 156, .int .u8 149, .int .u8 188, .int .u8 163, .int .u8 80, .int .u8 140, .int .u8 36, .int .u8 177, .int .u8 208, .int .u8 177, .int .u8 85, .int .u8 156, .int .u8 131, .int .u8 239, .int .u8 91, .int .u8 4, .int .u8 68, .int .u8 92, .int .u8 196, .int .u8 88, .int .u8 28, .int .u8 142, .int .u8 134, .int .u8 216, .int .u8 34, .int .u8 78, .int .u8 221, .int .u8 208, .int .u8 159, .int .u8 17, .int .u8 87] = keyC eightB := rfl
theorem minus_length : minusK.length = 32 := by decide +kernel
theorem smallL_length : ∀ l ∈ smallL, l.length = 32 := by decide +kernel
theorem smallL_zero : ∀ l ∈ smallL, ladC (numK l) [true, false, false, false] = 0 := by decide +kernel
theorem all_more7 : decide (ofLowB (ffL 32) < pF) = false := by decide +kernel
theorem small_all (s : List UInt8) (hs : s.length = 32) (k : Nat) (hk : k < 5) : ∃ l, smallL[k]? = some l ∧ l.length = 32 ∧ rawK s l = zeroKey ∧ multE s l = 30 := by
  have h : k < smallL.length := hk
  have hm := List.getElem_mem h
  exact ⟨smallL[k], List.getElem?_eq_getElem h, smallL_length _ hm, raw_small s _ hs (smallL_zero _ hm), multE_small s _ hs (smallL_zero _ hm)⟩
set_option maxHeartbeats 8000000 in
theorem ladderSmall_walk (w : World) (s : List UInt8) (hs : s.length = 32) :
    Calls Try.prog 8 #[keyV s] w (RetV w (.bool true)) := by
  have Ls := Lib.hid hs
  clear hs
  have C16 : Hid (∀ w, Calls Try.prog 9 #[] w (RetV w (.bool true))) := fun w => ladderAwake_any w
  have E0 := Lib.hid (Env.start w)
  go_enter Try.func8, Try.ntmps8
  go_wp2_with (first
    | ((with_reducible refine wpE_box (o := ⟨some 1, _, _, _, _, _⟩) rfl 23 (.tmp 0) rfl (keyC (s)) (by with_unfolding_all rfl) E0.out ?_); intro g1 w1 T1; have E1 := Lib.hid T1; clear T1))
  refine (C16.out _).mono ?_
  rintro e w2 ⟨rfl, b2⟩
  have E2 := Lib.hid (E1.out.call b2)
  clear b2 E1
  go_wp2_with (first
    | ((with_reducible refine wpE_alloc (o := ⟨some 4, _, _, _, _, _⟩) rfl 23 rfl (keyC (zeroKey)) Try.zeroK E2.out ?_); intro g2 w3 T3; have E3 := Lib.hid T3; clear T3)
    | ((with_reducible refine wpE_store (o := ⟨none, _, _, _, _, _⟩) rfl 23 (.tmp 4) (.tmp 17) rfl 0 g2 23 (keyC (zeroKey)) (keyC (zeroKey)) (by with_unfolding_all rfl) (by with_unfolding_all rfl) (by with_unfolding_all exact congrArg Value.agg zeroLit) (keyC_same zeroKey_length zeroKey_length) (Try.sizeKey _ zeroKey_length) (keyC_one _) E3.out ?_); intro w4 T4; simp only [List.set_cons_zero] at T4; have E4 := Lib.hid T4; clear T4))
  go_loopw [5] (fun i wr => ∃ k : Nat, k ≤ 32 ∧ i = .int .i64 k ∧ Env w [(g2, 23, keyC (ffL k)), (g1, 23, keyC s)] wr) (fun i _ => 32 - (intOf i).toNat)
  case atStart => exact ⟨0, by omega, rfl, E4.out⟩
  case round =>
    clear E4
    obtain ⟨k, hk, rfl, hE⟩ := hrel
    have E := Lib.hid hE
    clear hE
    by_cases hlt : k < 32
    · have hc := bytesC_cell (E.out.row 0 rfl) k (by rw [ffL_length k hk]; exact hlt)
      generalize ((ffL k)[k]'(by rw [ffL_length k hk]; exact hlt)).toNat = old at hc
      have hf := E.out.fzN 0 rfl k
      have E2 := E.out.cellTo 0 rfl k (.int .u8 255) (bytesC_put (ffL k) k 255)
      simp only [List.set_cons_zero] at E2
      rw [ffL_step k hlt] at E2
      have HE := Lib.hid E2
      have hk5 : (k : Int) < 32 := by omega
      clear E2 E
      go_wp2
      go_roundw
      case rel => exact ⟨k + 1, by omega, by go_num, HE.out⟩
      case measure => simp [intOf]; omega
    · have hk32 : k = 32 := by omega
      have EA := E.out
      rw [hk32] at EA
      clear E hk hk32
      obtain ⟨fl, hfl⟩ : ∃ l, l = ffL 32 := ⟨_, rfl⟩
      rw [← hfl] at EA
      have Lfl : Hid (fl.length = 32) := by show _ = _; rw [hfl]; exact ffL_length 32 (Nat.le_refl _)
      have HMA : Hid (multE s fl = 30) := by show _ = _; rw [hfl]; exact multE_more _ _ all_more7
      have HMI : Hid (minusK = (fl.set 0 236).set 31 127) := by show _ = _; rw [hfl]; rfl
      have LMI : Hid (minusK.length = 32) := minus_length
      have LA8 : Hid (eightA.length = 32) := rfl
      have LB8 : Hid (eightB.length = 32) := rfl
      obtain ⟨mi, hmi⟩ : ∃ l, l = minusK := ⟨_, rfl⟩
      have HSL : Hid (smallL = [zeroKey, oneK, mi, eightA, eightB]) := by show _ = _; rw [hmi]; rfl
      rw [← hmi] at HMI LMI
      have H0 : Hid (∃ x, fl[0]? = some x) := ⟨_, getD_some (by rw [Lfl.out]; omega)⟩
      have H1 : Hid (∃ x, (fl.set 0 236)[31]? = some x) := ⟨_, getD_some (by rw [List.length_set, Lfl.out]; omega)⟩
      obtain ⟨x0, hx0⟩ := H0.out
      obtain ⟨x1, hx1⟩ := H1.out
      have HX0 := Lib.hid hx0
      have HX1 := Lib.hid hx1
      clear H0 H1 hx0 hx1 hfl

      have E5 := Lib.hid EA
      clear EA
      go_wp2_with (first
        | (with_reducible refine wpE_load (o := ⟨some 24, _, _, _, _, _⟩) rfl 23 (.tmp 4) rfl 0 g2 23 (keyC (fl)) _ (by with_unfolding_all rfl) (by with_unfolding_all rfl) Try.underlying23 rfl (Try.sizeKey _ Lfl.out) E5.out ?_)
        | ((with_reducible refine wpE_alloc (o := ⟨some 6, _, _, _, _, _⟩) rfl 23 rfl (keyC (zeroKey)) Try.zeroK E5.out ?_); intro g3 w5 T6; have E6 := Lib.hid T6; clear T6)
        | ((with_reducible refine wpE_store (o := ⟨none, _, _, _, _, _⟩) rfl 23 (.tmp 6) (.tmp 24) rfl 0 g3 23 (keyC (zeroKey)) (keyC (fl)) (by with_unfolding_all rfl) (by with_unfolding_all rfl) (by with_unfolding_all rfl) (keyC_same zeroKey_length Lfl.out) (Try.sizeKey _ Lfl.out) (keyC_one _) E6.out ?_); intro w6 T7; simp only [List.set_cons_zero] at T7; have E7 := Lib.hid T7; clear T7; have haE8 := keyC_at (E7.out.row 0 rfl) 0 HX0.out; have faE8 := E7.out.fzN 0 rfl 0; have T := E7.out.cellTo 0 rfl 0 (.int .u8 236) (bytesC_put (fl) 0 236); simp only [List.set_cons_zero] at T; have E8 := Lib.hid T; clear T; have haE9 := keyC_at (E8.out.row 0 rfl) 31 HX1.out; have faE9 := E8.out.fzN 0 rfl 31; have T := E8.out.cellTo 0 rfl 31 (.int .u8 127) (bytesC_put (fl.set 0 236) 31 127); simp only [List.set_cons_zero] at T; rw [← HMI.out] at T; have E9 := Lib.hid T; clear T)
        | ((with_reducible refine wpE_alloc (o := ⟨some 7, _, _, _, _, _⟩) rfl 23 rfl (keyC (zeroKey)) Try.zeroK E9.out ?_); intro g4 w7 T10; have E10 := Lib.hid T10; clear T10)
        | ((with_reducible refine wpE_store (o := ⟨none, _, _, _, _, _⟩) rfl 23 (.tmp 7) (.tmp 27) rfl 0 g4 23 (keyC (zeroKey)) (keyC (eightA)) (by with_unfolding_all rfl) (by with_unfolding_all rfl) (by with_unfolding_all exact congrArg Value.agg eightALit) (keyC_same zeroKey_length LA8.out) (Try.sizeKey _ LA8.out) (keyC_one _) E10.out ?_); intro w8 T11; simp only [List.set_cons_zero] at T11; have E11 := Lib.hid T11; clear T11)
        | ((with_reducible refine wpE_alloc (o := ⟨some 8, _, _, _, _, _⟩) rfl 23 rfl (keyC (zeroKey)) Try.zeroK E11.out ?_); intro g5 w9 T12; have E12 := Lib.hid T12; clear T12)
        | ((with_reducible refine wpE_store (o := ⟨none, _, _, _, _, _⟩) rfl 23 (.tmp 8) (.tmp 28) rfl 0 g5 23 (keyC (zeroKey)) (keyC (eightB)) (by with_unfolding_all rfl) (by with_unfolding_all rfl) (by with_unfolding_all exact congrArg Value.agg eightBLit) (keyC_same zeroKey_length LB8.out) (Try.sizeKey _ LB8.out) (keyC_one _) E12.out ?_); intro w10 T13; simp only [List.set_cons_zero] at T13; have E13 := Lib.hid T13; clear T13)
        | (with_reducible refine wpE_load (o := ⟨some 31, _, _, _, _, _⟩) rfl 23 (.tmp 6) rfl 2 g3 23 (keyC (mi)) _ (by with_unfolding_all rfl) (by with_unfolding_all rfl) Try.underlying23 rfl (Try.sizeKey _ LMI.out) E13.out ?_)
        | (with_reducible refine wpE_load (o := ⟨some 32, _, _, _, _, _⟩) rfl 23 (.tmp 7) rfl 1 g4 23 (keyC (eightA)) _ (by with_unfolding_all rfl) (by with_unfolding_all rfl) Try.underlying23 rfl (Try.sizeKey _ LA8.out) E13.out ?_)
        | (with_reducible refine wpE_load (o := ⟨some 33, _, _, _, _, _⟩) rfl 23 (.tmp 8) rfl 0 g5 23 (keyC (eightB)) _ (by with_unfolding_all rfl) (by with_unfolding_all rfl) Try.underlying23 rfl (Try.sizeKey _ LB8.out) E13.out ?_)
        | ((with_reducible refine wpE_buildKeys (o := ⟨some 34, _, _, _, _, _⟩) rfl 37 23 5 _ rfl [zeroKey, oneK, mi, eightA, eightB] (by rw [← HSL.out]; exact smallL_length) rfl (by omega) (by omega) (by with_unfolding_all rfl) Try.underlying37 Try.key32 (keyC zeroKey) Try.zeroK E13.out ?_); intro g6 w11 T; rw [← HSL.out] at T; have E14 := Lib.hid T; clear T))
      go_loopw [10] (fun i wr => ∃ k : Nat, k ≤ 5 ∧ i = .int .i64 k ∧ Env w [(g6, 23, keyC (smallL.flatten)), (g5, 23, keyC (eightB)), (g4, 23, keyC (eightA)), (g3, 23, keyC (mi)), (g2, 23, keyC (fl)), (g1, 23, keyC (s))] wr) (fun i _ => 5 - (intOf i).toNat)
      case atStart => exact ⟨0, by omega, rfl, E14.out⟩
      case round =>
        clear E14
        obtain ⟨k, hk, rfl, hE⟩ := hrel
        have E15 := Lib.hid hE
        clear hE
        by_cases hlt : k < 5
        · have HLT := Lib.hid hlt
          obtain ⟨l, hkl, hl, hr0, hm0⟩ := small_all s Ls.out k hlt
          have HKL := Lib.hid hkl
          have Ll := Lib.hid hl
          have HR0 := Lib.hid hr0
          have HM0 := Lib.hid hm0
          have hk5 : (k : Int) < 5 := by omega
          clear hkl hl hr0 hm0 hlt hk
          have C46 : Hid (∀ w, Calls Try.prog 11 #[.agg (keyC (s)), .agg (keyC (l))] w (RetV w (.agg (keyC (zeroKey))))) := fun w => by have h := Raw_any s l Ls.out Ll.out w; rwa [HR0.out] at h
          obtain ⟨r53, hr53⟩ : ∃ v, v = multK s l := ⟨_, rfl⟩
          have Lr53 : Hid (r53.length = 32) := by show _ = _; rw [hr53]; exact multK_length _ _
          have C53 : Hid (∀ w, Calls Try.prog 12 #[.agg (keyC (s)), .agg (keyC (l))] w (RetV w (.tuple #[.agg (keyC (r53)), .int .i64 30]))) := fun w => by have h := Mult_any s l Ls.out Ll.out w; rwa [HM0.out, ← hr53] at h
          clear hr53
          go_wp2_with fail
          refine region_state (N := 74) E15.out (by kernel_rfl) [(0, .agg (keyC (s))), (1, .slice (some ⟨g6, 0, none⟩) 5 5), (2, .int .i64 (k : Int)), (3, .pointer (some ⟨g6, k * 32, none⟩)), (4, .agg (keyC (l))), (5, .agg (keyC (zeroKey)))] [⟨6, 7, 23, (keyC (zeroKey)), (keyC (zeroKey))⟩] [41, 42, 43, 44, 45, 46, 11] (by kernel_rfl) (by kernel_rfl) (by rfl) ⟨?_, ?_, ?_, ?_, ?_, ?_, trivial⟩ ⟨?_, trivial⟩ ?_
          · refine valE_run 0 _ (fun o ho ac wc h1 h2 hE => ?_)
            obtain rfl := Option.some.inj ho
            have e1 : ac.tmps.getD 1 undef = .pointer (some ⟨g1, 0, none⟩) := h2 1 (by kernel_rfl)
            exact run_load_row _ (.tmp 1) rfl g1 e1 23 (keyC (s)) (0, 0) _ (hE.row 5 rfl) Try.underlying23 rfl (Try.sizeKey _ Ls.out)
          · refine valE_run 1 _ (fun o ho ac wc h1 h2 hE => ?_)
            obtain rfl := Option.some.inj ho
            have e9 : ac.tmps.getD 9 undef = .slice (some ⟨g6, 0, none⟩) 5 5 := h2 9 (by kernel_rfl)
            unfold execOp
            simp only [Act.eval]
            go_simp
          · refine valE_run 2 _ (fun o ho ac wc h1 h2 hE => ?_)
            obtain rfl := Option.some.inj ho
            have e10 : ac.tmps.getD 10 undef = .int .i64 (k : Int) := h2 10 (by kernel_rfl)
            unfold execOp
            simp only [Act.eval]
            go_simp
          · refine valE_run 3 _ (fun o ho ac wc h1 h2 hE => ?_)
            obtain rfl := Option.some.inj ho
            have e42 : ac.tmps.getD 42 undef = .slice (some ⟨g6, 0, none⟩) 5 5 := h1 1 _ rfl (by kernel_rfl) 42 rfl
            have e43 : ac.tmps.getD 43 undef = .int .i64 (k : Int) := h1 2 _ rfl (by kernel_rfl) 43 rfl
            exact run_keyAddr 37 23 (.tmp 42) (.tmp 43) rfl g6 5 5 k e42 e43 HLT.out Try.underlying37 Try.key32
          · refine valE_run 4 _ (fun o ho ac wc h1 h2 hE => ?_)
            obtain rfl := Option.some.inj ho
            have e44 : ac.tmps.getD 44 undef = .pointer (some ⟨g6, k * 32, none⟩) := h1 3 _ rfl (by kernel_rfl) 44 rfl
            exact run_keyOf _ (.tmp 44) rfl g6 k e44 23 smallL smallL_length l HKL.out _ (hE.row 0 rfl) Try.underlying23 rfl (Try.keyCells _ Ll.out)
          · refine valE_call 5 _ 11 #[.agg (keyC (s)), .agg (keyC (l))] (fun w => C46.out w) (fun o ho ac wc h1 h2 => ?_)
            obtain rfl := Option.some.inj ho
            have e41 : ac.tmps.getD 41 undef = .agg (keyC (s)) := h1 0 _ rfl (by kernel_rfl) 41 rfl
            have e45 : ac.tmps.getD 45 undef = .agg (keyC (l)) := h1 4 _ rfl (by kernel_rfl) 45 rfl
            exact run_call_func 11 _ _ rfl _ (by simp [Act.eval, e41, e45]) (by go_simp)
          · exact ⟨⟨_, rfl, rfl, Try.zeroK⟩, _, 11, 46, 5, rfl, rfl, by kernel_rfl, by kernel_rfl, keyC_same zeroKey_length zeroKey_length, (Try.sizeKey _ zeroKey_length), keyC_one _, by kernel_rfl, rfl⟩
          intro G w12 T16
          obtain ⟨g7, hg7⟩ : ∃ g, g = G 6 := ⟨_, rfl⟩
          simp only [List.map_cons, List.map_nil, List.cons_append, List.nil_append, ← hg7] at T16
          simp only [List.map_cons, List.map_nil, List.cons_append, List.nil_append, List.zip_cons_cons, List.zip_nil_right, putAll, ptrE, Act.put, List.setIfInBounds_toArray, List.set_cons_zero, List.set_cons_succ, ← hg7]
          have E16 := Lib.hid T16
          clear T16 E15 hg7 G
          go_wp2_with fail
          refine region_state (N := 74) E16.out (by kernel_rfl) [(0, .agg (keyC (s))), (1, .slice (some ⟨g6, 0, none⟩) 5 5), (2, .int .i64 (k : Int)), (3, .pointer (some ⟨g6, k * 32, none⟩)), (4, .agg (keyC (l))), (5, .tuple #[.agg (keyC (r53)), .int .i64 30]), (6, .tuple #[.agg (keyC (r53)), .int .i64 30]), (7, .agg (keyC (r53))), (8, .int .i64 30), (11, .int .i64 30)] [⟨9, 10, 23, (keyC (zeroKey)), (keyC (r53))⟩] [48, 49, 50, 51, 52, 53, 47, 54, 55, 13, 12] (by kernel_rfl) (by kernel_rfl) (by rfl) ⟨?_, ?_, ?_, ?_, ?_, ?_, ?_, ?_, ?_, ?_, trivial⟩ ⟨?_, trivial⟩ ?_
          · refine valE_run 0 _ (fun o ho ac wc h1 h2 hE => ?_)
            obtain rfl := Option.some.inj ho
            have e1 : ac.tmps.getD 1 undef = .pointer (some ⟨g1, 0, none⟩) := h2 1 (by kernel_rfl)
            exact run_load_row _ (.tmp 1) rfl g1 e1 23 (keyC (s)) (0, 0) _ (hE.row 6 rfl) Try.underlying23 rfl (Try.sizeKey _ Ls.out)
          · refine valE_run 1 _ (fun o ho ac wc h1 h2 hE => ?_)
            obtain rfl := Option.some.inj ho
            have e9 : ac.tmps.getD 9 undef = .slice (some ⟨g6, 0, none⟩) 5 5 := h2 9 (by kernel_rfl)
            unfold execOp
            simp only [Act.eval]
            go_simp
          · refine valE_run 2 _ (fun o ho ac wc h1 h2 hE => ?_)
            obtain rfl := Option.some.inj ho
            have e10 : ac.tmps.getD 10 undef = .int .i64 (k : Int) := h2 10 (by kernel_rfl)
            unfold execOp
            simp only [Act.eval]
            go_simp
          · refine valE_run 3 _ (fun o ho ac wc h1 h2 hE => ?_)
            obtain rfl := Option.some.inj ho
            have e49 : ac.tmps.getD 49 undef = .slice (some ⟨g6, 0, none⟩) 5 5 := h1 1 _ rfl (by kernel_rfl) 49 rfl
            have e50 : ac.tmps.getD 50 undef = .int .i64 (k : Int) := h1 2 _ rfl (by kernel_rfl) 50 rfl
            exact run_keyAddr 37 23 (.tmp 49) (.tmp 50) rfl g6 5 5 k e49 e50 HLT.out Try.underlying37 Try.key32
          · refine valE_run 4 _ (fun o ho ac wc h1 h2 hE => ?_)
            obtain rfl := Option.some.inj ho
            have e51 : ac.tmps.getD 51 undef = .pointer (some ⟨g6, k * 32, none⟩) := h1 3 _ rfl (by kernel_rfl) 51 rfl
            exact run_keyOf _ (.tmp 51) rfl g6 k e51 23 smallL smallL_length l HKL.out _ (hE.row 1 rfl) Try.underlying23 rfl (Try.keyCells _ Ll.out)
          · refine valE_call 5 _ 12 #[.agg (keyC (s)), .agg (keyC (l))] (fun w => C53.out w) (fun o ho ac wc h1 h2 => ?_)
            obtain rfl := Option.some.inj ho
            have e48 : ac.tmps.getD 48 undef = .agg (keyC (s)) := h1 0 _ rfl (by kernel_rfl) 48 rfl
            have e52 : ac.tmps.getD 52 undef = .agg (keyC (l)) := h1 4 _ rfl (by kernel_rfl) 52 rfl
            exact run_call_func 12 _ _ rfl _ (by simp [Act.eval, e48, e52]) (by go_simp)
          · refine valE_run 6 _ (fun o ho ac wc h1 h2 hE => ?_)
            obtain rfl := Option.some.inj ho
            have e53 : ac.tmps.getD 53 undef = .tuple #[.agg (keyC (r53)), .int .i64 30] := h1 5 _ rfl (by kernel_rfl) 53 rfl
            unfold execOp
            simp only [Act.eval]
            go_simp
          · refine valE_run 7 _ (fun o ho ac wc h1 h2 hE => ?_)
            obtain rfl := Option.some.inj ho
            have e47 : ac.tmps.getD 47 undef = .tuple #[.agg (keyC (r53)), .int .i64 30] := h1 6 _ rfl (by kernel_rfl) 47 rfl
            unfold execOp
            simp only [Act.eval]
            go_simp
          · refine valE_run 8 _ (fun o ho ac wc h1 h2 hE => ?_)
            obtain rfl := Option.some.inj ho
            have e47 : ac.tmps.getD 47 undef = .tuple #[.agg (keyC (r53)), .int .i64 30] := h1 6 _ rfl (by kernel_rfl) 47 rfl
            unfold execOp
            simp only [Act.eval]
            go_simp
          · refine valE_run 11 _ (fun o ho ac wc h1 h2 hE => ?_)
            obtain rfl := Option.some.inj ho
            have e55 : ac.tmps.getD 55 undef = .int .i64 30 := h1 8 _ rfl (by kernel_rfl) 55 rfl
            unfold execOp
            simp only [Act.eval]
            go_simp
          · exact ⟨⟨_, rfl, rfl, Try.zeroK⟩, _, 12, 54, 7, rfl, rfl, by kernel_rfl, by kernel_rfl, keyC_same zeroKey_length Lr53.out, (Try.sizeKey _ Lr53.out), keyC_one _, by kernel_rfl, rfl⟩
          intro G w13 T17
          obtain ⟨g8, hg8⟩ : ∃ g, g = G 9 := ⟨_, rfl⟩
          simp only [List.map_cons, List.map_nil, List.cons_append, List.nil_append, ← hg8] at T17
          simp only [List.map_cons, List.map_nil, List.cons_append, List.nil_append, List.zip_cons_cons, List.zip_nil_right, putAll, ptrE, Act.put, List.setIfInBounds_toArray, List.set_cons_zero, List.set_cons_succ, ← hg8]
          have E17 := Lib.hid T17
          clear T17 E16 hg8 G
          have hq := fun W => Try.eqZeroIn W
          have hg := Try.eqGuardKey
          go_wp2_with (first
            | (with_reducible refine wpE_load (o := ⟨some 56, _, _, _, _, _⟩) rfl 23 (.tmp 11) rfl 1 g7 23 (keyC (zeroKey)) _ (by with_unfolding_all rfl) (by with_unfolding_all rfl) Try.underlying23 rfl (Try.sizeKey _ zeroKey_length) E17.out ?_))
          clear hq hg
          go_roundw
          case rel => exact ⟨k + 1, by have := HLT.out; omega, by go_num, E17.out.off.off⟩
          case measure => have := HLT.out; simp [intOf]; omega
        · have hk5 : k = 5 := by omega
          subst hk5
          clear hlt hk
          obtain ⟨r66, hr66⟩ : ∃ v, v = multK s fl := ⟨_, rfl⟩
          have Lr66 : Hid (r66.length = 32) := by show _ = _; rw [hr66]; exact multK_length _ _
          have C66 : Hid (∀ w, Calls Try.prog 12 #[.agg (keyC (s)), .agg (keyC (fl))] w (RetV w (.tuple #[.agg (keyC (r66)), .int .i64 30]))) := fun w => by have h := Mult_any s fl Ls.out Lfl.out w; rwa [HMA.out, ← hr66] at h
          clear hr66
          go_wp2_with (first
            | (with_reducible refine wpE_load (o := ⟨some 64, _, _, _, _, _⟩) rfl 23 (.tmp 1) rfl 5 g1 23 (keyC (s)) _ (by with_unfolding_all rfl) (by with_unfolding_all rfl) Try.underlying23 rfl (Try.sizeKey _ Ls.out) E15.out ?_)
            | (with_reducible refine wpE_load (o := ⟨some 65, _, _, _, _, _⟩) rfl 23 (.tmp 4) rfl 4 g2 23 (keyC (fl)) _ (by with_unfolding_all rfl) (by with_unfolding_all rfl) Try.underlying23 rfl (Try.sizeKey _ Lfl.out) E15.out ?_))
          refine (C66.out _).mono ?_
          rintro e w14 ⟨rfl, b14⟩
          have E16 := Lib.hid (E15.out.call b14)
          clear b14 E15
          go_wp2_with (first
            | ((with_reducible refine wpE_alloc (o := ⟨some 14, _, _, _, _, _⟩) rfl 23 rfl (keyC (zeroKey)) Try.zeroK E16.out ?_); intro g9 w15 T17; have E17 := Lib.hid T17; clear T17)
            | ((with_reducible refine wpE_store (o := ⟨none, _, _, _, _, _⟩) rfl 23 (.tmp 14) (.tmp 67) rfl 0 g9 23 (keyC (zeroKey)) (keyC (r66)) (by with_unfolding_all rfl) (by with_unfolding_all rfl) (by with_unfolding_all rfl) (keyC_same zeroKey_length Lr66.out) (Try.sizeKey _ Lr66.out) (keyC_one _) E17.out ?_); intro w16 T18; simp only [List.set_cons_zero] at T18; have E18 := Lib.hid T18; clear T18))
          go_ret
          exact E18.out.ret _
end Go.Proofs.Ytpgjcmccfpjmoaa
