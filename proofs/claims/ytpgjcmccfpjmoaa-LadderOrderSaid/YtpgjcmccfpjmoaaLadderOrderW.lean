/-
  LadderOrder, walked: the call returns true. Conditions: none beyond the law's own.
-/
import Derived.Test.YtpgjcmccfpjmoaaLadderK
import Derived.Test.YtpgjcmccfpjmoaaLadderS
namespace Go.Proofs.Ytpgjcmccfpjmoaa
open Go.RowKit
set_option linter.unusedVariables false
set_option maxRecDepth 20000

set_option maxHeartbeats 4000000 in
theorem ladderOrder_walk (w : World) (i : List UInt8) (hi : i.length = 32) (j : List UInt8) (hj : j.length = 32) (k : List UInt8) (hk : k.length = 32) :
    Calls Try.prog 6 #[keyV i, keyV j, keyV k] w (RetV w (.bool true)) := by
  have Li := Lib.hid hi
  clear hi
  have Lj := Lib.hid hj
  clear hj
  have Lk := Lib.hid hk
  clear hk
  have C10 : Hid (∀ w, Calls Try.prog 9 #[] w (RetV w (.bool true))) := fun w => ladderAwake_any w
  obtain ⟨k14, hk14⟩ : ∃ v, v = rawK j k := ⟨_, rfl⟩
  have Lk14 : Hid (k14.length = 32) := by show _ = _; rw [hk14]; exact rawK_length _ _
  have C14 : Hid (∀ w, Calls Try.prog 11 #[.agg (keyC (j)), .agg (keyC (k))] w (RetV w (.agg (keyC (k14))))) := by rw [hk14]; exact fun w => Raw_any j k Lj.out Lk.out w
  obtain ⟨k15, hk15⟩ : ∃ v, v = rawK i k14 := ⟨_, rfl⟩
  have Lk15 : Hid (k15.length = 32) := by show _ = _; rw [hk15]; exact rawK_length _ _
  have C15 : Hid (∀ w, Calls Try.prog 11 #[.agg (keyC (i)), .agg (keyC (k14))] w (RetV w (.agg (keyC (k15))))) := by rw [hk15]; exact fun w => Raw_any i k14 Li.out Lk14.out w
  obtain ⟨k19, hk19⟩ : ∃ v, v = rawK i k := ⟨_, rfl⟩
  have Lk19 : Hid (k19.length = 32) := by show _ = _; rw [hk19]; exact rawK_length _ _
  have C19 : Hid (∀ w, Calls Try.prog 11 #[.agg (keyC (i)), .agg (keyC (k))] w (RetV w (.agg (keyC (k19))))) := by rw [hk19]; exact fun w => Raw_any i k Li.out Lk.out w
  obtain ⟨k20, hk20⟩ : ∃ v, v = rawK j k19 := ⟨_, rfl⟩
  have Lk20 : Hid (k20.length = 32) := by show _ = _; rw [hk20]; exact rawK_length _ _
  have C20 : Hid (∀ w, Calls Try.prog 11 #[.agg (keyC (j)), .agg (keyC (k19))] w (RetV w (.agg (keyC (k20))))) := by rw [hk20]; exact fun w => Raw_any j k19 Lj.out Lk19.out w
  have Q25 : Hid (∀ W, (Op.equalIn 10000 23 (.agg (keyC k15)) (.agg (keyC k20))).run Try.prog W = .ok true W) := fun W => by rw [Try.eqKeyIn k15 k20 Lk15.out Lk20.out W]; exact congrArg (fun v => Result.ok v W) (by rw [beq_iff_eq, hk15, hk14, hk20, hk19]; exact raw_swap _ _ _)
  clear hk14 hk15 hk19 hk20
  have E0 := Lib.hid (Env.start w)
  go_enter Try.func6, Try.ntmps6
  go_wp2_with (first
    | ((with_reducible refine wpE_box (o := ⟨some 3, _, _, _, _, _⟩) rfl 23 (.tmp 0) rfl (keyC (i)) (by with_unfolding_all rfl) E0.out ?_); intro g1 w1 T1; have E1 := Lib.hid T1; clear T1)
    | ((with_reducible refine wpE_box (o := ⟨some 4, _, _, _, _, _⟩) rfl 23 (.tmp 1) rfl (keyC (j)) (by with_unfolding_all rfl) E1.out ?_); intro g2 w2 T2; have E2 := Lib.hid T2; clear T2)
    | ((with_reducible refine wpE_box (o := ⟨some 5, _, _, _, _, _⟩) rfl 23 (.tmp 2) rfl (keyC (k)) (by with_unfolding_all rfl) E2.out ?_); intro g3 w3 T3; have E3 := Lib.hid T3; clear T3))
  refine (C10.out _).mono ?_
  rintro e w4 ⟨rfl, b4⟩
  have E4 := Lib.hid (E3.out.call b4)
  clear b4 E3
  go_wp2_with fail
  refine region_state (N := 27) E4.out (by kernel_rfl) [(0, .agg (keyC (i))), (1, .agg (keyC (j))), (2, .agg (keyC (k))), (3, .agg (keyC (k14))), (4, .agg (keyC (k15)))] [⟨5, 6, 23, (keyC (zeroKey)), (keyC (k15))⟩] [11, 12, 13, 14, 15, 8] (by kernel_rfl) (by kernel_rfl) (by rfl) ⟨?_, ?_, ?_, ?_, ?_, trivial⟩ ⟨?_, trivial⟩ ?_
  · refine valE_run 0 _ (fun o ho ac wc h1 h2 hE => ?_)
    obtain rfl := Option.some.inj ho
    have e3 : ac.tmps.getD 3 undef = .pointer (some ⟨g1, 0, none⟩) := h2 3 (by kernel_rfl)
    exact run_load_row _ (.tmp 3) rfl g1 e3 23 (keyC (i)) (0, 0) _ (hE.row 2 rfl) Try.underlying23 rfl (Try.sizeKey _ Li.out)
  · refine valE_run 1 _ (fun o ho ac wc h1 h2 hE => ?_)
    obtain rfl := Option.some.inj ho
    have e4 : ac.tmps.getD 4 undef = .pointer (some ⟨g2, 0, none⟩) := h2 4 (by kernel_rfl)
    exact run_load_row _ (.tmp 4) rfl g2 e4 23 (keyC (j)) (0, 0) _ (hE.row 1 rfl) Try.underlying23 rfl (Try.sizeKey _ Lj.out)
  · refine valE_run 2 _ (fun o ho ac wc h1 h2 hE => ?_)
    obtain rfl := Option.some.inj ho
    have e5 : ac.tmps.getD 5 undef = .pointer (some ⟨g3, 0, none⟩) := h2 5 (by kernel_rfl)
    exact run_load_row _ (.tmp 5) rfl g3 e5 23 (keyC (k)) (0, 0) _ (hE.row 0 rfl) Try.underlying23 rfl (Try.sizeKey _ Lk.out)
  · refine valE_call 3 _ 11 #[.agg (keyC (j)), .agg (keyC (k))] (fun w => C14.out w) (fun o ho ac wc h1 h2 => ?_)
    obtain rfl := Option.some.inj ho
    have e12 : ac.tmps.getD 12 undef = .agg (keyC (j)) := h1 1 _ rfl (by kernel_rfl) 12 rfl
    have e13 : ac.tmps.getD 13 undef = .agg (keyC (k)) := h1 2 _ rfl (by kernel_rfl) 13 rfl
    exact run_call_func 11 _ _ rfl _ (by simp [Act.eval, e12, e13]) (by go_simp)
  · refine valE_call 4 _ 11 #[.agg (keyC (i)), .agg (keyC (k14))] (fun w => C15.out w) (fun o ho ac wc h1 h2 => ?_)
    obtain rfl := Option.some.inj ho
    have e11 : ac.tmps.getD 11 undef = .agg (keyC (i)) := h1 0 _ rfl (by kernel_rfl) 11 rfl
    have e14 : ac.tmps.getD 14 undef = .agg (keyC (k14)) := h1 3 _ rfl (by kernel_rfl) 14 rfl
    exact run_call_func 11 _ _ rfl _ (by simp [Act.eval, e11, e14]) (by go_simp)
  · exact ⟨⟨_, rfl, rfl, Try.zeroK⟩, _, 8, 15, 4, rfl, rfl, by kernel_rfl, by kernel_rfl, keyC_same zeroKey_length Lk15.out, (Try.sizeKey _ Lk15.out), keyC_one _, by kernel_rfl, rfl⟩
  intro G w5 T5
  obtain ⟨g4, hg4⟩ : ∃ g, g = G 5 := ⟨_, rfl⟩
  simp only [List.map_cons, List.map_nil, List.cons_append, List.nil_append, ← hg4] at T5
  simp only [List.map_cons, List.map_nil, List.cons_append, List.nil_append, List.zip_cons_cons, List.zip_nil_right, putAll, ptrE, Act.put, List.setIfInBounds_toArray, List.set_cons_zero, List.set_cons_succ, ← hg4]
  have E5 := Lib.hid T5
  clear T5 E4 hg4 G
  go_wp2_with fail
  refine region_state (N := 27) E5.out (by kernel_rfl) [(0, .agg (keyC (j))), (1, .agg (keyC (i))), (2, .agg (keyC (k))), (3, .agg (keyC (k19))), (4, .agg (keyC (k20)))] [⟨5, 6, 23, (keyC (zeroKey)), (keyC (k20))⟩] [16, 17, 18, 19, 20, 9] (by kernel_rfl) (by kernel_rfl) (by rfl) ⟨?_, ?_, ?_, ?_, ?_, trivial⟩ ⟨?_, trivial⟩ ?_
  · refine valE_run 0 _ (fun o ho ac wc h1 h2 hE => ?_)
    obtain rfl := Option.some.inj ho
    have e4 : ac.tmps.getD 4 undef = .pointer (some ⟨g2, 0, none⟩) := h2 4 (by kernel_rfl)
    exact run_load_row _ (.tmp 4) rfl g2 e4 23 (keyC (j)) (0, 0) _ (hE.row 2 rfl) Try.underlying23 rfl (Try.sizeKey _ Lj.out)
  · refine valE_run 1 _ (fun o ho ac wc h1 h2 hE => ?_)
    obtain rfl := Option.some.inj ho
    have e3 : ac.tmps.getD 3 undef = .pointer (some ⟨g1, 0, none⟩) := h2 3 (by kernel_rfl)
    exact run_load_row _ (.tmp 3) rfl g1 e3 23 (keyC (i)) (0, 0) _ (hE.row 3 rfl) Try.underlying23 rfl (Try.sizeKey _ Li.out)
  · refine valE_run 2 _ (fun o ho ac wc h1 h2 hE => ?_)
    obtain rfl := Option.some.inj ho
    have e5 : ac.tmps.getD 5 undef = .pointer (some ⟨g3, 0, none⟩) := h2 5 (by kernel_rfl)
    exact run_load_row _ (.tmp 5) rfl g3 e5 23 (keyC (k)) (0, 0) _ (hE.row 1 rfl) Try.underlying23 rfl (Try.sizeKey _ Lk.out)
  · refine valE_call 3 _ 11 #[.agg (keyC (i)), .agg (keyC (k))] (fun w => C19.out w) (fun o ho ac wc h1 h2 => ?_)
    obtain rfl := Option.some.inj ho
    have e17 : ac.tmps.getD 17 undef = .agg (keyC (i)) := h1 1 _ rfl (by kernel_rfl) 17 rfl
    have e18 : ac.tmps.getD 18 undef = .agg (keyC (k)) := h1 2 _ rfl (by kernel_rfl) 18 rfl
    exact run_call_func 11 _ _ rfl _ (by simp [Act.eval, e17, e18]) (by go_simp)
  · refine valE_call 4 _ 11 #[.agg (keyC (j)), .agg (keyC (k19))] (fun w => C20.out w) (fun o ho ac wc h1 h2 => ?_)
    obtain rfl := Option.some.inj ho
    have e16 : ac.tmps.getD 16 undef = .agg (keyC (j)) := h1 0 _ rfl (by kernel_rfl) 16 rfl
    have e19 : ac.tmps.getD 19 undef = .agg (keyC (k19)) := h1 3 _ rfl (by kernel_rfl) 19 rfl
    exact run_call_func 11 _ _ rfl _ (by simp [Act.eval, e16, e19]) (by go_simp)
  · exact ⟨⟨_, rfl, rfl, Try.zeroK⟩, _, 9, 20, 4, rfl, rfl, by kernel_rfl, by kernel_rfl, keyC_same zeroKey_length Lk20.out, (Try.sizeKey _ Lk20.out), keyC_one _, by kernel_rfl, rfl⟩
  intro G w6 T6
  obtain ⟨g5, hg5⟩ : ∃ g, g = G 5 := ⟨_, rfl⟩
  simp only [List.map_cons, List.map_nil, List.cons_append, List.nil_append, ← hg5] at T6
  simp only [List.map_cons, List.map_nil, List.cons_append, List.nil_append, List.zip_cons_cons, List.zip_nil_right, putAll, ptrE, Act.put, List.setIfInBounds_toArray, List.set_cons_zero, List.set_cons_succ, ← hg5]
  have E6 := Lib.hid T6
  clear T6 E5 hg5 G
  have hq25 := Q25.out
  have hg := Try.eqGuardKey
  go_wp2_with (first
    | (with_reducible refine wpListG_load_row (o := ⟨some 23, _, _, _, _, _⟩) 23 (.tmp 8) rfl (by with_unfolding_all rfl) g4 (by with_unfolding_all rfl) 23 (keyC (k15)) (.array 32 5) (by with_unfolding_all exact E6.out.row 1 rfl) Try.underlying23 rfl (Try.sizeKey _ Lk15.out) ?_)
    | (with_reducible refine wpListG_load_row (o := ⟨some 24, _, _, _, _, _⟩) 23 (.tmp 9) rfl (by with_unfolding_all rfl) g5 (by with_unfolding_all rfl) 23 (keyC (k20)) (.array 32 5) (by with_unfolding_all exact E6.out.row 0 rfl) Try.underlying23 rfl (Try.sizeKey _ Lk20.out) ?_))
  clear hq25 hg
  go_ret
  exact E6.out.ret _
end Go.Proofs.Ytpgjcmccfpjmoaa
