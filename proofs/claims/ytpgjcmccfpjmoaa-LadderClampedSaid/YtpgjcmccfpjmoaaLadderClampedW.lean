/-
  LadderClamped, walked: the call returns true. Conditions: none beyond the law's own.
-/
import Derived.Test.YtpgjcmccfpjmoaaLadderL
namespace Go.Proofs.Ytpgjcmccfpjmoaa
open Go.RowKit
set_option linter.unusedVariables false
set_option maxRecDepth 20000

set_option maxHeartbeats 4000000 in
theorem ladderClamped_walk (w : World) (i : List UInt8) (hi : i.length = 32) (j : List UInt8) (hj : j.length = 32) (b : UInt8) :
    Calls Try.prog 7 #[keyV i, keyV j, .int .u8 (b.toNat : Int)] w (RetV w (.bool true)) := by
  have Li := Lib.hid hi
  clear hi
  have Lj := Lib.hid hj
  clear hj
  obtain ⟨x0, hx0⟩ : ∃ x, x = i.getD 0 0 := ⟨_, rfl⟩
  obtain ⟨x1, hx1⟩ : ∃ x, x = i.getD 31 0 := ⟨_, rfl⟩
  obtain ⟨z1, hz1⟩ : ∃ x, x = j.getD 31 0 := ⟨_, rfl⟩
  obtain ⟨n0, hn0⟩ : ∃ x, x = x0 ^^^ (b &&& 7) := ⟨_, rfl⟩
  obtain ⟨n1, hn1⟩ : ∃ x, x = x1 ^^^ (b &&& 192) := ⟨_, rfl⟩
  obtain ⟨m1, hm1⟩ : ∃ x, x = z1 ^^^ 128 := ⟨_, rfl⟩
  obtain ⟨to, hto'⟩ : ∃ l, l = (i.set 0 n0).set 31 n1 := ⟨_, rfl⟩
  obtain ⟨tu, htu'⟩ : ∃ l, l = j.set 31 m1 := ⟨_, rfl⟩
  have H0 : Hid (i[0]? = some x0) := by show _ = _; rw [hx0]; exact getD_some (by rw [Li.out]; omega)
  have H1 : Hid ((i.set 0 n0)[31]? = some x1) := by show _ = _; rw [hx1, List.getElem?_set_ne (by omega)]; exact getD_some (by rw [Li.out]; omega)
  have H2 : Hid (j[31]? = some z1) := by show _ = _; rw [hz1]; exact getD_some (by rw [Lj.out]; omega)
  have HTO := Lib.hid hto'
  have HTU := Lib.hid htu'
  have Lto : Hid (to.length = 32) := by show _ = _; rw [hto', List.length_set, List.length_set]; exact Li.out
  have Ltu : Hid (tu.length = 32) := by show _ = _; rw [htu', List.length_set]; exact Lj.out
  have hto : to = (i.set 0 (i.getD 0 0 ^^^ (b &&& 7))).set 31 (i.getD 31 0 ^^^ (b &&& 192)) := by rw [hto', hn0, hn1, hx0, hx1]
  have htu : tu = j.set 31 (j.getD 31 0 ^^^ 128) := by rw [htu', hm1, hz1]
  have X7 : bits .xor .u8 (x0.toNat : Int) ((b.toNat &&& 7 : Nat) : Int) = (n0.toNat : Int) := by rw [hn0]; exact xor_byte x0 (b &&& 7)
  have X192 : bits .xor .u8 (x1.toNat : Int) ((b.toNat &&& 192 : Nat) : Int) = (n1.toNat : Int) := by rw [hn1]; exact xor_byte x1 (b &&& 192)
  have X128 : bits .xor .u8 (z1.toNat : Int) 128 = (m1.toNat : Int) := by rw [hm1]; exact xor_byte z1 128
  have N7 : bits .and .u8 (b.toNat : Int) 7 = ((b.toNat &&& 7 : Nat) : Int) := and_byte b 7
  have N192 : bits .and .u8 (b.toNat : Int) 192 = ((b.toNat &&& 192 : Nat) : Int) := and_byte b 192
  have C14 : Hid (∀ w, Calls Try.prog 9 #[] w (RetV w (.bool true))) := fun w => ladderAwake_any w
  obtain ⟨k17, hk17⟩ : ∃ v, v = rawK i j := ⟨_, rfl⟩
  have Lk17 : Hid (k17.length = 32) := by show _ = _; rw [hk17]; exact rawK_length _ _
  have C17 : Hid (∀ w, Calls Try.prog 11 #[.agg (keyC (i)), .agg (keyC (j))] w (RetV w (.agg (keyC (k17))))) := by rw [hk17]; exact fun w => Raw_any i j Li.out Lj.out w
  obtain ⟨k19, hk19⟩ : ∃ v, v = clampK i := ⟨_, rfl⟩
  have Lk19 : Hid (k19.length = 32) := by show _ = _; rw [hk19]; exact clampK_length _ Li.out
  have C19 : Hid (∀ w, Calls Try.prog 10 #[.agg (keyC (i))] w (RetV w (.agg (keyC (k19))))) := by rw [hk19]; exact fun w => Clamp_any i Li.out w
  obtain ⟨k21, hk21⟩ : ∃ v, v = rawK k19 j := ⟨_, rfl⟩
  have Lk21 : Hid (k21.length = 32) := by show _ = _; rw [hk21]; exact rawK_length _ _
  have C21 : Hid (∀ w, Calls Try.prog 11 #[.agg (keyC (k19)), .agg (keyC (j))] w (RetV w (.agg (keyC (k21))))) := by rw [hk21]; exact fun w => Raw_any k19 j Lk19.out Lj.out w
  obtain ⟨k37, hk37⟩ : ∃ v, v = rawK to j := ⟨_, rfl⟩
  have Lk37 : Hid (k37.length = 32) := by show _ = _; rw [hk37]; exact rawK_length _ _
  have C37 : Hid (∀ w, Calls Try.prog 11 #[.agg (keyC (to)), .agg (keyC (j))] w (RetV w (.agg (keyC (k37))))) := by rw [hk37]; exact fun w => Raw_any to j Lto.out Lj.out w
  obtain ⟨k45, hk45⟩ : ∃ v, v = rawK i tu := ⟨_, rfl⟩
  have Lk45 : Hid (k45.length = 32) := by show _ = _; rw [hk45]; exact rawK_length _ _
  have C45 : Hid (∀ w, Calls Try.prog 11 #[.agg (keyC (i)), .agg (keyC (tu))] w (RetV w (.agg (keyC (k45))))) := by rw [hk45]; exact fun w => Raw_any i tu Li.out Ltu.out w
  have Q50 : Hid (∀ W, (Op.equalIn 10000 23 (.agg (keyC k17)) (.agg (keyC k21))).run Try.prog W = .ok true W) := fun W => by rw [Try.eqKeyIn k17 k21 Lk17.out Lk21.out W]; exact congrArg (fun v => Result.ok v W) (by rw [beq_iff_eq, hk17, hk21, hk19]; exact (raw_clamp _ _ Li.out).symm)
  have Q55 : Hid (∀ W, (Op.equalIn 10000 23 (.agg (keyC k17)) (.agg (keyC k37))).run Try.prog W = .ok true W) := fun W => by rw [Try.eqKeyIn k17 k37 Lk17.out Lk37.out W]; exact congrArg (fun v => Result.ok v W) (by rw [beq_iff_eq, hk17, hk37]; exact (raw_other _ _ _ (by rw [hto]; exact clamp_other i Li.out b)).symm)
  have Q60 : Hid (∀ W, (Op.equalIn 10000 23 (.agg (keyC k17)) (.agg (keyC k45))).run Try.prog W = .ok true W) := fun W => by rw [Try.eqKeyIn k17 k45 Lk17.out Lk45.out W]; exact congrArg (fun v => Result.ok v W) (by rw [beq_iff_eq, hk17, hk45, htu]; exact (raw_turned _ _ Lj.out).symm)
  clear hx0 hx1 hz1 hn0 hn1 hm1 hto' htu' hto htu hk17 hk19 hk21 hk37 hk45
  have E0 := Lib.hid (Env.start w)
  go_enter Try.func7, Try.ntmps7
  go_wp2_with (first
    | ((with_reducible refine wpE_box (o := ⟨some 3, _, _, _, _, _⟩) rfl 23 (.tmp 0) rfl (keyC (i)) (by with_unfolding_all rfl) E0.out ?_); intro g1 w1 T1; have E1 := Lib.hid T1; clear T1)
    | ((with_reducible refine wpE_box (o := ⟨some 4, _, _, _, _, _⟩) rfl 23 (.tmp 1) rfl (keyC (j)) (by with_unfolding_all rfl) E1.out ?_); intro g2 w2 T2; have E2 := Lib.hid T2; clear T2))
  refine (C14.out _).mono ?_
  rintro e w3 ⟨rfl, b3⟩
  have E3 := Lib.hid (E2.out.call b3)
  clear b3 E2
  go_wp2_with (first
    | (with_reducible refine wpE_load (o := ⟨some 15, _, _, _, _, _⟩) rfl 23 (.tmp 3) rfl 1 g1 23 (keyC (i)) _ (by with_unfolding_all rfl) (by with_unfolding_all rfl) Try.underlying23 rfl (Try.sizeKey _ Li.out) E3.out ?_)
    | (with_reducible refine wpE_load (o := ⟨some 16, _, _, _, _, _⟩) rfl 23 (.tmp 4) rfl 0 g2 23 (keyC (j)) _ (by with_unfolding_all rfl) (by with_unfolding_all rfl) Try.underlying23 rfl (Try.sizeKey _ Lj.out) E3.out ?_))
  refine (C17.out _).mono ?_
  rintro e w4 ⟨rfl, b4⟩
  have E4 := Lib.hid (E3.out.call b4)
  clear b4 E3
  go_wp2_with (first
    | ((with_reducible refine wpE_alloc (o := ⟨some 8, _, _, _, _, _⟩) rfl 23 rfl (keyC (zeroKey)) Try.zeroK E4.out ?_); intro g3 w5 T5; have E5 := Lib.hid T5; clear T5)
    | ((with_reducible refine wpE_store (o := ⟨none, _, _, _, _, _⟩) rfl 23 (.tmp 8) (.tmp 17) rfl 0 g3 23 (keyC (zeroKey)) (keyC (k17)) (by with_unfolding_all rfl) (by with_unfolding_all rfl) (by with_unfolding_all rfl) (keyC_same zeroKey_length Lk17.out) (Try.sizeKey _ Lk17.out) (keyC_one _) E5.out ?_); intro w6 T6; simp only [List.set_cons_zero] at T6; have E6 := Lib.hid T6; clear T6))
  refine region_state (N := 62) E6.out (by kernel_rfl) [(0, .agg (keyC (i))), (1, .agg (keyC (k19))), (2, .agg (keyC (j))), (3, .agg (keyC (k21)))] [⟨4, 5, 23, (keyC (zeroKey)), (keyC (k21))⟩] [18, 19, 20, 21, 9] (by kernel_rfl) (by kernel_rfl) (by rfl) ⟨?_, ?_, ?_, ?_, trivial⟩ ⟨?_, trivial⟩ ?_
  · refine valE_run 0 _ (fun o ho ac wc h1 h2 hE => ?_)
    obtain rfl := Option.some.inj ho
    have e3 : ac.tmps.getD 3 undef = .pointer (some ⟨g1, 0, none⟩) := h2 3 (by kernel_rfl)
    exact run_load_row _ (.tmp 3) rfl g1 e3 23 (keyC (i)) (0, 0) _ (hE.row 2 rfl) Try.underlying23 rfl (Try.sizeKey _ Li.out)
  · refine valE_call 1 _ 10 #[.agg (keyC (i))] (fun w => C19.out w) (fun o ho ac wc h1 h2 => ?_)
    obtain rfl := Option.some.inj ho
    have e18 : ac.tmps.getD 18 undef = .agg (keyC (i)) := h1 0 _ rfl (by kernel_rfl) 18 rfl
    exact run_call_func 10 _ _ rfl _ (by simp [Act.eval, e18]) (by go_simp)
  · refine valE_run 2 _ (fun o ho ac wc h1 h2 hE => ?_)
    obtain rfl := Option.some.inj ho
    have e4 : ac.tmps.getD 4 undef = .pointer (some ⟨g2, 0, none⟩) := h2 4 (by kernel_rfl)
    exact run_load_row _ (.tmp 4) rfl g2 e4 23 (keyC (j)) (0, 0) _ (hE.row 1 rfl) Try.underlying23 rfl (Try.sizeKey _ Lj.out)
  · refine valE_call 3 _ 11 #[.agg (keyC (k19)), .agg (keyC (j))] (fun w => C21.out w) (fun o ho ac wc h1 h2 => ?_)
    obtain rfl := Option.some.inj ho
    have e19 : ac.tmps.getD 19 undef = .agg (keyC (k19)) := h1 1 _ rfl (by kernel_rfl) 19 rfl
    have e20 : ac.tmps.getD 20 undef = .agg (keyC (j)) := h1 2 _ rfl (by kernel_rfl) 20 rfl
    exact run_call_func 11 _ _ rfl _ (by simp [Act.eval, e19, e20]) (by go_simp)
  · exact ⟨⟨_, rfl, rfl, Try.zeroK⟩, _, 9, 21, 3, rfl, rfl, by kernel_rfl, by kernel_rfl, keyC_same zeroKey_length Lk21.out, (Try.sizeKey _ Lk21.out), keyC_one _, by kernel_rfl, rfl⟩
  intro G w7 T7
  obtain ⟨g4, hg4⟩ : ∃ g, g = G 4 := ⟨_, rfl⟩
  simp only [List.map_cons, List.map_nil, List.cons_append, List.nil_append, ← hg4] at T7
  simp only [List.map_cons, List.map_nil, List.cons_append, List.nil_append, List.zip_cons_cons, List.zip_nil_right, putAll, ptrE, Act.put, List.setIfInBounds_toArray, List.set_cons_zero, List.set_cons_succ, ← hg4]
  have E7 := Lib.hid T7
  clear T7 E6 hg4 G
  go_wp2_with (first
    | (with_reducible refine wpE_load (o := ⟨some 22, _, _, _, _, _⟩) rfl 23 (.tmp 3) rfl 3 g1 23 (keyC (i)) _ (by with_unfolding_all rfl) (by with_unfolding_all rfl) Try.underlying23 rfl (Try.sizeKey _ Li.out) E7.out ?_)
    | ((with_reducible refine wpE_alloc (o := ⟨some 10, _, _, _, _, _⟩) rfl 23 rfl (keyC (zeroKey)) Try.zeroK E7.out ?_); intro g5 w8 T8; have E8 := Lib.hid T8; clear T8)
    | ((with_reducible refine wpE_store (o := ⟨none, _, _, _, _, _⟩) rfl 23 (.tmp 10) (.tmp 22) rfl 0 g5 23 (keyC (zeroKey)) (keyC (i)) (by with_unfolding_all rfl) (by with_unfolding_all rfl) (by with_unfolding_all rfl) (keyC_same zeroKey_length Li.out) (Try.sizeKey _ Li.out) (keyC_one _) E8.out ?_); intro w9 T9; simp only [List.set_cons_zero] at T9; have E9 := Lib.hid T9; clear T9; have haE10 := keyC_at (E9.out.row 0 rfl) 0 H0.out; have faE10 := E9.out.fzN 0 rfl 0; have T := E9.out.cellTo 0 rfl 0 (.int .u8 ((n0).toNat : Int)) (bytesC_put (i) 0 (n0)); simp only [List.set_cons_zero] at T; have E10 := Lib.hid T; clear T; have haE11 := keyC_at (E10.out.row 0 rfl) 31 H1.out; have faE11 := E10.out.fzN 0 rfl 31; have T := E10.out.cellTo 0 rfl 31 (.int .u8 ((n1).toNat : Int)) (bytesC_put (i.set 0 n0) 31 (n1)); simp only [List.set_cons_zero] at T; rw [← HTO.out] at T; have E11 := Lib.hid T; clear T)
    | (with_reducible refine wpE_load (o := ⟨some 35, _, _, _, _, _⟩) rfl 23 (.tmp 10) rfl 0 g5 23 (keyC (to)) _ (by with_unfolding_all rfl) (by with_unfolding_all rfl) Try.underlying23 rfl (Try.sizeKey _ Lto.out) E11.out ?_)
    | (with_reducible refine wpE_load (o := ⟨some 36, _, _, _, _, _⟩) rfl 23 (.tmp 4) rfl 3 g2 23 (keyC (j)) _ (by with_unfolding_all rfl) (by with_unfolding_all rfl) Try.underlying23 rfl (Try.sizeKey _ Lj.out) E11.out ?_))
  refine (C37.out _).mono ?_
  rintro e w10 ⟨rfl, b10⟩
  have E12 := Lib.hid (E11.out.call b10)
  clear b10 E11
  go_wp2_with (first
    | ((with_reducible refine wpE_alloc (o := ⟨some 11, _, _, _, _, _⟩) rfl 23 rfl (keyC (zeroKey)) Try.zeroK E12.out ?_); intro g6 w11 T13; have E13 := Lib.hid T13; clear T13)
    | ((with_reducible refine wpE_store (o := ⟨none, _, _, _, _, _⟩) rfl 23 (.tmp 11) (.tmp 37) rfl 0 g6 23 (keyC (zeroKey)) (keyC (k37)) (by with_unfolding_all rfl) (by with_unfolding_all rfl) (by with_unfolding_all rfl) (keyC_same zeroKey_length Lk37.out) (Try.sizeKey _ Lk37.out) (keyC_one _) E13.out ?_); intro w12 T14; simp only [List.set_cons_zero] at T14; have E14 := Lib.hid T14; clear T14)
    | (with_reducible refine wpE_load (o := ⟨some 38, _, _, _, _, _⟩) rfl 23 (.tmp 4) rfl 4 g2 23 (keyC (j)) _ (by with_unfolding_all rfl) (by with_unfolding_all rfl) Try.underlying23 rfl (Try.sizeKey _ Lj.out) E14.out ?_)
    | ((with_reducible refine wpE_alloc (o := ⟨some 12, _, _, _, _, _⟩) rfl 23 rfl (keyC (zeroKey)) Try.zeroK E14.out ?_); intro g7 w13 T15; have E15 := Lib.hid T15; clear T15)
    | ((with_reducible refine wpE_store (o := ⟨none, _, _, _, _, _⟩) rfl 23 (.tmp 12) (.tmp 38) rfl 0 g7 23 (keyC (zeroKey)) (keyC (j)) (by with_unfolding_all rfl) (by with_unfolding_all rfl) (by with_unfolding_all rfl) (keyC_same zeroKey_length Lj.out) (Try.sizeKey _ Lj.out) (keyC_one _) E15.out ?_); intro w14 T16; simp only [List.set_cons_zero] at T16; have E16 := Lib.hid T16; clear T16; have haE17 := keyC_at (E16.out.row 0 rfl) 31 H2.out; have faE17 := E16.out.fzN 0 rfl 31; have T := E16.out.cellTo 0 rfl 31 (.int .u8 ((m1).toNat : Int)) (bytesC_put (j) 31 (m1)); simp only [List.set_cons_zero] at T; rw [← HTU.out] at T; have E17 := Lib.hid T; clear T)
    | (with_reducible refine wpE_load (o := ⟨some 43, _, _, _, _, _⟩) rfl 23 (.tmp 3) rfl 6 g1 23 (keyC (i)) _ (by with_unfolding_all rfl) (by with_unfolding_all rfl) Try.underlying23 rfl (Try.sizeKey _ Li.out) E17.out ?_)
    | (with_reducible refine wpE_load (o := ⟨some 44, _, _, _, _, _⟩) rfl 23 (.tmp 12) rfl 0 g7 23 (keyC (tu)) _ (by with_unfolding_all rfl) (by with_unfolding_all rfl) Try.underlying23 rfl (Try.sizeKey _ Ltu.out) E17.out ?_))
  refine (C45.out _).mono ?_
  rintro e w15 ⟨rfl, b15⟩
  have E18 := Lib.hid (E17.out.call b15)
  clear b15 E17
  have hq50 := Q50.out
  have hq55 := Q55.out
  have hq60 := Q60.out
  have hg := Try.eqGuardKey
  go_wp2_with (first
    | ((with_reducible refine wpE_alloc (o := ⟨some 13, _, _, _, _, _⟩) rfl 23 rfl (keyC (zeroKey)) Try.zeroK E18.out ?_); intro g8 w16 T19; have E19 := Lib.hid T19; clear T19)
    | ((with_reducible refine wpE_store (o := ⟨none, _, _, _, _, _⟩) rfl 23 (.tmp 13) (.tmp 45) rfl 0 g8 23 (keyC (zeroKey)) (keyC (k45)) (by with_unfolding_all rfl) (by with_unfolding_all rfl) (by with_unfolding_all rfl) (keyC_same zeroKey_length Lk45.out) (Try.sizeKey _ Lk45.out) (keyC_one _) E19.out ?_); intro w17 T20; simp only [List.set_cons_zero] at T20; have E20 := Lib.hid T20; clear T20)
    | (with_reducible refine wpListG_load_row (o := ⟨some 48, _, _, _, _, _⟩) 23 (.tmp 8) rfl (by with_unfolding_all rfl) g3 (by with_unfolding_all rfl) 23 (keyC (k17)) (.array 32 5) (by with_unfolding_all exact E20.out.row 5 rfl) Try.underlying23 rfl (Try.sizeKey _ Lk17.out) ?_)
    | (with_reducible refine wpListG_load_row (o := ⟨some 49, _, _, _, _, _⟩) 23 (.tmp 9) rfl (by with_unfolding_all rfl) g4 (by with_unfolding_all rfl) 23 (keyC (k21)) (.array 32 5) (by with_unfolding_all exact E20.out.row 4 rfl) Try.underlying23 rfl (Try.sizeKey _ Lk21.out) ?_)
    | (with_reducible refine wpListG_load_row (o := ⟨some 53, _, _, _, _, _⟩) 23 (.tmp 8) rfl (by with_unfolding_all rfl) g3 (by with_unfolding_all rfl) 23 (keyC (k17)) (.array 32 5) (by with_unfolding_all exact E20.out.row 5 rfl) Try.underlying23 rfl (Try.sizeKey _ Lk17.out) ?_)
    | (with_reducible refine wpListG_load_row (o := ⟨some 54, _, _, _, _, _⟩) 23 (.tmp 11) rfl (by with_unfolding_all rfl) g6 (by with_unfolding_all rfl) 23 (keyC (k37)) (.array 32 5) (by with_unfolding_all exact E20.out.row 2 rfl) Try.underlying23 rfl (Try.sizeKey _ Lk37.out) ?_)
    | (with_reducible refine wpListG_load_row (o := ⟨some 58, _, _, _, _, _⟩) 23 (.tmp 8) rfl (by with_unfolding_all rfl) g3 (by with_unfolding_all rfl) 23 (keyC (k17)) (.array 32 5) (by with_unfolding_all exact E20.out.row 5 rfl) Try.underlying23 rfl (Try.sizeKey _ Lk17.out) ?_)
    | (with_reducible refine wpListG_load_row (o := ⟨some 59, _, _, _, _, _⟩) 23 (.tmp 13) rfl (by with_unfolding_all rfl) g8 (by with_unfolding_all rfl) 23 (keyC (k45)) (.array 32 5) (by with_unfolding_all exact E20.out.row 0 rfl) Try.underlying23 rfl (Try.sizeKey _ Lk45.out) ?_))
  clear hq50 hq55 hq60 hg
  go_ret
  exact E20.out.ret _
end Go.Proofs.Ytpgjcmccfpjmoaa
