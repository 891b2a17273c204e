/-
  Contract of the ladder's multiple. Conditions: a key has thirty-two bytes; the number is below p.
-/
import Derived.Test.YtpgjcmccfpjmoaaLadderC
namespace Go.Proofs.Ytpgjcmccfpjmoaa
open Go.RowKit
set_option linter.unusedVariables false
set_option maxRecDepth 20000

/-- The rungs, as numbers. -/
structure RN where
  a : Nat
  b : Nat
  c : Nat
  d : Nat
def RN.swap (r : RN) (s : Bool) : RN := ⟨pickN s r.c r.a, pickN s r.d r.b, pickN s r.a r.c, pickN s r.b r.d⟩
def RN.next (u : Nat) (r : RN) : RN := ⟨next2 r.a r.b, nextz2 r.a r.b, next3 r.a r.b r.c r.d, nextz3 u r.a r.b r.c r.d⟩
def RN.Ok (r : RN) : Prop := r.a < pF ∧ r.b < pF ∧ r.c < pF ∧ r.d < pF
theorem RN.Ok.swap {r : RN} (h : r.Ok) (s : Bool) : (r.swap s).Ok := ⟨pickN_lt h.2.2.1 h.1, pickN_lt h.2.2.2 h.2.1, pickN_lt h.1 h.2.2.1, pickN_lt h.2.1 h.2.2.2⟩
theorem RN.next_ok (u : Nat) (r : RN) : (r.next u).Ok := ⟨modF_lt _, modF_lt _, modF_lt _, modF_lt _⟩
def lastN (key : List UInt8) : Nat → Bool
  | 0 => false
  | k + 1 => bitK key (254 - k)
def runN (key : List UInt8) (u : Nat) : Nat → RN
  | 0 => ⟨1, 0, u, 1⟩
  | k + 1 => ((runN key u k).swap (bitK key (254 - k) != lastN key k)).next u
theorem runN_ok (key : List UInt8) (u : Nat) (hu : u < pF) (k : Nat) : (runN key u k).Ok := by
  cases k with
  | zero => exact ⟨by show 1 < pF; decide, by show 0 < pF; decide, hu, by show 1 < pF; decide⟩
  | succ k => exact RN.next_ok _ _
def rungN (r : RN) : List Nat := rungL r.a r.b r.c r.d
def endN (key : List UInt8) (u : Nat) : RN := (runN key u 255).swap (lastN key 255)
/-- So many times a point. -/
def multN (key : List UInt8) (u : Nat) : Nat := (endN key u).a * invF (endN key u).b % pF
theorem multN_lt (key : List UInt8) (u : Nat) : multN key u < pF := modF_lt _
set_option maxHeartbeats 4000000 in
theorem multiple_any (key : List UInt8) (hkey : key.length = 32) (u : Nat) (bu : u < pF) (w : World) :
    Calls Try.prog 24 #[.agg (keyC key), .agg (natsC (elemL u))] w (RetV w (.agg (natsC (elemL (multN key u))))) := by
  have Lkey := Lib.hid hkey
  have HB := Lib.hid bu
  obtain ⟨v9, hv9⟩ : ∃ v, v = 1 := ⟨_, rfl⟩
  have bv9 : v9 < pF := by rw [hv9]; exact (by decide)
  have C9 : Hid (∀ w, Calls Try.prog 38 #[.int .u64 1] w (RetV w (.agg (natsC (elemL v9))))) := by rw [hv9]; exact fun w => Small_any 1 (by decide) w
  have H0 : Hid (natsC (rungL v9 0 u v9) = natsC (rungN (runN key u 0))) := by show _ = _; rw [rungN, runN, hv9]
  clear hv9 bv9
  have E0 := Lib.hid (Env.start w)
  go_enter Try.func24, Try.ntmps24
  go_wp2_with (first
    | ((with_reducible refine wpE_box (o := ⟨some 2, _, _, _, _, _⟩) rfl 23 (.tmp 0) rfl (keyC (key)) (by with_unfolding_all rfl) E0.out ?_); intro g1 w1 T1; have E1 := Lib.hid T1; clear T1)
    | ((with_reducible refine wpE_box (o := ⟨some 3, _, _, _, _, _⟩) rfl 45 (.tmp 1) rfl (natsC (elemL u)) (by with_unfolding_all rfl) E1.out ?_); intro g2 w2 T2; have E2 := Lib.hid T2; clear T2)
    | ((with_reducible refine wpE_alloc (o := ⟨some 4, _, _, _, _, _⟩) rfl 45 rfl (natsC (zero5)) Try.zero5e E2.out ?_); intro g3 w3 T3; have E3 := Lib.hid T3; clear T3))
  refine region_state (N := 38) E3.out (by kernel_rfl) [(0, .agg (natsC (elemL v9))), (1, .agg (natsC (elemL u))), (2, .agg (natsC (elemL v9))), (3, .agg (natsC (rungL v9 0 u v9)))] [⟨4, 5, 77, (natsC (rungL 0 0 0 0)), (natsC (rungL v9 0 u v9))⟩] [9, 10, 11, 12, 5] (by kernel_rfl) (by kernel_rfl) (by rfl) ⟨?_, ?_, ?_, ?_, trivial⟩ ⟨?_, trivial⟩ ?_
  · refine valE_call 0 _ 38 #[.int .u64 1] (fun w => C9.out w) (fun o ho ac wc h1 h2 => ?_)
    obtain rfl := Option.some.inj ho
    exact run_call_func 38 _ _ rfl _ (by simp [Act.eval]) (by go_simp)
  · refine valE_run 1 _ (fun o ho ac wc h1 h2 hE => ?_)
    obtain rfl := Option.some.inj ho
    have e3 : ac.tmps.getD 3 undef = .pointer (some ⟨g2, 0, none⟩) := h2 3 (by kernel_rfl)
    exact run_load_row _ (.tmp 3) rfl g2 e3 45 (natsC (elemL u)) (0, 0) _ (hE.row 1 rfl) Try.underlying45 rfl (sizeN Try.sz5e _ (elemL_length _))
  · refine valE_call 2 _ 38 #[.int .u64 1] (fun w => C9.out w) (fun o ho ac wc h1 h2 => ?_)
    obtain rfl := Option.some.inj ho
    exact run_call_func 38 _ _ rfl _ (by simp [Act.eval]) (by go_simp)
  · refine valE_run 3 _ (fun o ho ac wc h1 h2 hE => ?_)
    obtain rfl := Option.some.inj ho
    have e9 : ac.tmps.getD 9 undef = .agg (natsC (elemL v9)) := h1 0 _ rfl (by kernel_rfl) 9 rfl
    have e10 : ac.tmps.getD 10 undef = .agg (natsC (elemL u)) := h1 1 _ rfl (by kernel_rfl) 10 rfl
    have e11 : ac.tmps.getD 11 undef = .agg (natsC (elemL v9)) := h1 2 _ rfl (by kernel_rfl) 11 rfl
    exact run_buildR3 (.tmp 9) (.tmp 10) (.tmp 11) rfl v9 u v9 e9 e10 e11
  · exact ⟨⟨_, rfl, rfl, Try.zeroR⟩, _, 5, 12, 3, rfl, rfl, by kernel_rfl, by kernel_rfl, natsC_same (rungL_length _ _ _ _) (rungL_length _ _ _ _), (sizeN Try.szR _ (rungL_length _ _ _ _)), natsC_one _, by kernel_rfl, rfl⟩
  intro G w4 T4
  obtain ⟨g4, hg4⟩ : ∃ g, g = G 4 := ⟨_, rfl⟩
  simp only [List.map_cons, List.map_nil, List.cons_append, List.nil_append, ← hg4] at T4
  simp only [List.map_cons, List.map_nil, List.cons_append, List.nil_append, List.zip_cons_cons, List.zip_nil_right, putAll, ptrE, Act.put, List.setIfInBounds_toArray, List.set_cons_zero, List.set_cons_succ, ← hg4]
  have E4 := Lib.hid T4
  clear T4 E3 hg4 G
  have EA := E4.out
  rw [H0.out] at EA
  have EB := Lib.hid EA
  clear EA E4 H0
  go_wp2_with fail
  go_loopw [6, 13] (fun last i wr => ∃ k : Nat, k ≤ 255 ∧ i = .int .i64 k ∧ last = .bool (lastN key k) ∧ Env w [(g4, 77, natsC (rungN (runN key u (k)))), (g3, 45, natsC (zero5)), (g2, 45, natsC (elemL u)), (g1, 23, keyC (key))] wr) (fun _ i _ => 255 - (intOf i).toNat)
  case atStart => exact ⟨0, by omega, rfl, rfl, EB.out⟩
  case round =>
    clear EB
    obtain ⟨k, hk, rfl, rfl, hE⟩ := hrel
    have hok := runN_ok key u HB.out k
    by_cases hlt : k < 255
    · have hnext : runN key u (k + 1) = ((runN key u k).swap (bitK key (254 - k) != lastN key k)).next u := rfl
      have hlast : lastN key (k + 1) = bitK key (254 - k) := rfl
      obtain ⟨m, hm⟩ : ∃ m, m = 254 - k := ⟨_, rfl⟩
      rw [← hm] at hnext hlast
      obtain ⟨bt, hbt⟩ : ∃ b, b = bitK key m := ⟨_, rfl⟩
      rw [← hbt] at hnext hlast
      obtain ⟨lt, hltn⟩ : ∃ b, b = lastN key k := ⟨_, rfl⟩
      rw [← hltn] at hnext
      rw [← hltn]
      generalize runN key u k = r at hE hok hnext
      obtain ⟨ra, rb, rc, rd⟩ := r
      have bra : ra < pF := hok.1
      have brb : rb < pF := hok.2.1
      have brc : rc < pF := hok.2.2.1
      have brd : rd < pF := hok.2.2.2
      have e254 : (254 : Int) - (k : Int) = (m : Int) := by omega
      have E0 := Lib.hid (show Env w [(g4, 77, natsC (rungL ra rb rc rd)), (g3, 45, natsC (zero5)), (g2, 45, natsC (elemL u)), (g1, 23, keyC (key))] _ from hE)
      have bu := HB.out
      have C19 : Hid (∀ w, Calls Try.prog 39 #[.agg (keyC (key)), .int .i64 (m : Int)] w (RetV w (.bool bt))) := by rw [hbt]; exact fun w => isSet_any key hkey m (by omega) w
      obtain ⟨p24a, hp24a⟩ : ∃ v, v = pickN (!(bt == lt)) rc ra := ⟨_, rfl⟩
      have bp24a : p24a < pF := by rw [hp24a]; exact pickN_lt brc bra
      obtain ⟨p24b, hp24b⟩ : ∃ v, v = pickN (!(bt == lt)) rd rb := ⟨_, rfl⟩
      have bp24b : p24b < pF := by rw [hp24b]; exact pickN_lt brd brb
      obtain ⟨p24c, hp24c⟩ : ∃ v, v = pickN (!(bt == lt)) ra rc := ⟨_, rfl⟩
      have bp24c : p24c < pF := by rw [hp24c]; exact pickN_lt bra brc
      obtain ⟨p24d, hp24d⟩ : ∃ v, v = pickN (!(bt == lt)) rb rd := ⟨_, rfl⟩
      have bp24d : p24d < pF := by rw [hp24d]; exact pickN_lt brb brd
      have C24 : Hid (∀ w, Calls Try.prog 40 #[.agg (natsC (rungL ra rb rc rd)), .bool ((!(bt == lt)))] w (RetV w (.agg (natsC (rungL p24a p24b p24c p24d))))) := by rw [hp24a, hp24b, hp24c, hp24d]; exact fun w => swapped_any ra rb rc rd bra brb brc brd (!(bt == lt)) w
      obtain ⟨p26a, hp26a⟩ : ∃ v, v = next2 p24a p24b := ⟨_, rfl⟩
      have bp26a : p26a < pF := by rw [hp26a]; exact modF_lt _
      obtain ⟨p26b, hp26b⟩ : ∃ v, v = nextz2 p24a p24b := ⟨_, rfl⟩
      have bp26b : p26b < pF := by rw [hp26b]; exact modF_lt _
      obtain ⟨p26c, hp26c⟩ : ∃ v, v = next3 p24a p24b p24c p24d := ⟨_, rfl⟩
      have bp26c : p26c < pF := by rw [hp26c]; exact modF_lt _
      obtain ⟨p26d, hp26d⟩ : ∃ v, v = nextz3 u p24a p24b p24c p24d := ⟨_, rfl⟩
      have bp26d : p26d < pF := by rw [hp26d]; exact modF_lt _
      have C26 : Hid (∀ w, Calls Try.prog 41 #[.agg (natsC (rungL p24a p24b p24c p24d)), .agg (natsC (elemL u))] w (RetV w (.agg (natsC (rungL p26a p26b p26c p26d))))) := by rw [hp26a, hp26b, hp26c, hp26d]; exact fun w => next_any p24a p24b p24c p24d u bp24a bp24b bp24c bp24d bu w
      have HS : Hid (natsC (rungL p26a p26b p26c p26d) = natsC (rungN (runN key u (k + 1)))) := by show _ = _; rw [hnext, hp26a, hp26b, hp26c, hp26d, hp24a, hp24b, hp24c, hp24d]; rfl
      have HL : Hid (lastN key (k + 1) = bt) := hlast
      clear hp24a bp24a hp24b bp24b hp24c bp24c hp24d bp24d hp26a bp26a hp26b bp26b hp26c bp26c hp26d bp26d hnext hlast hbt hltn hm bra brb brc brd hok hE bu
      go_wp2_with (first
        | (with_reducible refine wpE_load (o := ⟨some 16, _, _, _, _, _⟩) rfl 23 (.tmp 2) rfl 3 g1 23 (keyC (key)) _ (by with_unfolding_all rfl) (by with_unfolding_all rfl) Try.underlying23 rfl (Try.sizeKey _ Lkey.out) E0.out ?_))
      refine (C19.out _).mono ?_
      rintro e w41 ⟨rfl, b41⟩
      have E1 := Lib.hid (E0.out.call b41)
      clear b41 E0
      go_wp2_with fail
      refine region_class_tail 7 _ E1.out.drew (by kernel_rfl) (by kernel_rfl) ?_
      simp only [List.take_succ_cons, List.take_zero, List.drop_succ_cons, List.drop_zero]
      refine qE_load (by rfl) _ (.tmp 5) rfl 0 g4 77 (natsC (rungL ra rb rc rd)) _ rfl rfl Try.underlying77 rfl (sizeN Try.szR _ (rungL_length _ _ _ _)) ?_
      simp only [Act.put, List.setIfInBounds_toArray, List.set_cons_zero, List.set_cons_succ]
      refine q_run (by rfl) (v := .bool bt) (fun W _ => by go_simp) ?_
      simp only [Act.put, List.setIfInBounds_toArray, List.set_cons_zero, List.set_cons_succ]
      refine q_run (by rfl) (v := .bool lt) (fun W _ => by go_simp) ?_
      simp only [Act.put, List.setIfInBounds_toArray, List.set_cons_zero, List.set_cons_succ]
      refine q_run (by rfl) (v := .bool ((!(bt == lt)))) (fun W _ => by go_simp) ?_
      simp only [Act.put, List.setIfInBounds_toArray, List.set_cons_zero, List.set_cons_succ]
      refine q_call (by rfl) 40 _ (fun W => by go_simp) (fun W hW => hW.calls (C24.out W)) ?_
      simp only [Act.put, List.setIfInBounds_toArray, List.set_cons_zero, List.set_cons_succ]
      refine qE_load (by rfl) _ (.tmp 3) rfl 2 g2 45 (natsC (elemL u)) _ rfl rfl Try.underlying45 rfl (sizeN Try.sz5e _ (elemL_length _)) ?_
      simp only [Act.put, List.setIfInBounds_toArray, List.set_cons_zero, List.set_cons_succ]
      refine q_call (by rfl) 41 _ (fun W => by go_simp) (fun W hW => hW.calls (C26.out W)) ?_
      simp only [Act.put, List.setIfInBounds_toArray, List.set_cons_zero, List.set_cons_succ]
      refine wpQuiet_nil ?_
      intro w42 T2
      have E2 := Lib.hid T2
      clear T2 E1
      go_wp2_with (first
        | ((with_reducible refine wpE_store (o := ⟨none, _, _, _, _, _⟩) rfl 77 (.tmp 5) (.tmp 26) rfl 0 g4 77 (natsC (rungL ra rb rc rd)) (natsC (rungL p26a p26b p26c p26d)) (by with_unfolding_all rfl) (by with_unfolding_all rfl) (by with_unfolding_all rfl) (natsC_same (rungL_length _ _ _ _) (rungL_length _ _ _ _)) (sizeN Try.szR _ (rungL_length _ _ _ _)) (natsC_one _) E2.out ?_); intro w43 T3; simp only [List.set_cons_zero] at T3; have E3 := Lib.hid T3; clear T3))
      go_roundw
      case rel => exact ⟨k + 1, by omega, by go_num, by rw [HL.out], by rw [← HS.out]; exact E3.out⟩
      case measure => simp [intOf]; omega
    · have hk255 : k = 255 := by omega
      subst hk255
      have hend : endN key u = (runN key u 255).swap (lastN key 255) := rfl
      have hmul : multN key u = (endN key u).a * invF (endN key u).b % pF := rfl
      generalize runN key u 255 = r at hE hok hend
      obtain ⟨ra, rb, rc, rd⟩ := r
      have bra : ra < pF := hok.1
      have brb : rb < pF := hok.2.1
      have brc : rc < pF := hok.2.2.1
      have brd : rd < pF := hok.2.2.2
      generalize lastN key 255 = lt at hend ⊢
      have E0 := Lib.hid (show Env w [(g4, 77, natsC (rungL ra rb rc rd)), (g3, 45, natsC (zero5)), (g2, 45, natsC (elemL u)), (g1, 23, keyC (key))] _ from hE)
      obtain ⟨p31a, hp31a⟩ : ∃ v, v = pickN lt rc ra := ⟨_, rfl⟩
      have bp31a : p31a < pF := by rw [hp31a]; exact pickN_lt brc bra
      obtain ⟨p31b, hp31b⟩ : ∃ v, v = pickN lt rd rb := ⟨_, rfl⟩
      have bp31b : p31b < pF := by rw [hp31b]; exact pickN_lt brd brb
      obtain ⟨p31c, hp31c⟩ : ∃ v, v = pickN lt ra rc := ⟨_, rfl⟩
      have bp31c : p31c < pF := by rw [hp31c]; exact pickN_lt bra brc
      obtain ⟨p31d, hp31d⟩ : ∃ v, v = pickN lt rb rd := ⟨_, rfl⟩
      have bp31d : p31d < pF := by rw [hp31d]; exact pickN_lt brb brd
      have C31 : Hid (∀ w, Calls Try.prog 40 #[.agg (natsC (rungL ra rb rc rd)), .bool lt] w (RetV w (.agg (natsC (rungL p31a p31b p31c p31d))))) := by rw [hp31a, hp31b, hp31c, hp31d]; exact fun w => swapped_any ra rb rc rd bra brb brc brd lt w
      obtain ⟨v36, hv36⟩ : ∃ v, v = invF p31b := ⟨_, rfl⟩
      have bv36 : v36 < pF := by rw [hv36]; exact invF_lt _
      have C36 : Hid (∀ w, Calls Try.prog 43 #[.agg (natsC (elemL p31b))] w (RetV w (.agg (natsC (elemL v36))))) := by rw [hv36]; exact fun w => Invert_any p31b bp31b w
      obtain ⟨v37, hv37⟩ : ∃ v, v = p31a * v36 % pF := ⟨_, rfl⟩
      have bv37 : v37 < pF := by rw [hv37]; exact modF_lt _
      have C37 : Hid (∀ w, Calls Try.prog 42 #[.agg (natsC (elemL p31a)), .agg (natsC (elemL v36))] w (RetV w (.agg (natsC (elemL v37))))) := by rw [hv37]; exact fun w => Mul_any p31a v36 bp31a bv36 w
      have HR : Hid (natsC (elemL (multN key u)) = natsC (elemL v37)) := by show _ = _; rw [hmul, hend, hv37, hv36, hp31a, hp31b]; rfl
      clear hp31a bp31a hp31b bp31b hp31c bp31c hp31d bp31d hv36 bv36 hv37 bv37 hend hmul bra brb brc brd hok hE
      go_wp2_with (first
        | (with_reducible refine wpE_load (o := ⟨some 29, _, _, _, _, _⟩) rfl 77 (.tmp 5) rfl 0 g4 77 (natsC (rungL ra rb rc rd)) _ (by with_unfolding_all rfl) (by with_unfolding_all rfl) Try.underlying77 rfl (sizeN Try.szR _ (rungL_length _ _ _ _)) E0.out ?_))
      refine (C31.out _).mono ?_
      rintro e w41 ⟨rfl, b41⟩
      have E1 := Lib.hid (E0.out.call b41)
      clear b41 E0
      go_wp2_with (first
        | ((with_reducible refine wpE_store (o := ⟨none, _, _, _, _, _⟩) rfl 77 (.tmp 5) (.tmp 31) rfl 0 g4 77 (natsC (rungL ra rb rc rd)) (natsC (rungL p31a p31b p31c p31d)) (by with_unfolding_all rfl) (by with_unfolding_all rfl) (by with_unfolding_all rfl) (natsC_same (rungL_length _ _ _ _) (rungL_length _ _ _ _)) (sizeN Try.szR _ (rungL_length _ _ _ _)) (natsC_one _) E1.out ?_); intro w42 T2; simp only [List.set_cons_zero] at T2; have E2 := Lib.hid T2; clear T2))
      refine region_class_tail 6 _ E2.out.drew (by kernel_rfl) (by kernel_rfl) ?_
      simp only [List.take_succ_cons, List.take_zero, List.drop_succ_cons, List.drop_zero]
      refine q_run (by rfl) (v := .pointer (some ⟨g4, 0, none⟩)) (fun W _ => by go_simp) ?_
      simp only [Act.put, List.setIfInBounds_toArray, List.set_cons_zero, List.set_cons_succ]
      refine qE_part (by rfl) _ (.tmp 32) rfl 0 g4 0 77 (rungL p31a p31b p31c p31d) (elemL p31a) _ rfl rfl (rungL_0 _ _ _ _) Try.underlying45 rfl (by rw [elemL_length]; exact Try.sz5e) ?_
      simp only [Act.put, List.setIfInBounds_toArray, List.set_cons_zero, List.set_cons_succ]
      refine q_run (by rfl) (v := .pointer (some ⟨g4, 5, none⟩)) (fun W _ => by go_simp) ?_
      simp only [Act.put, List.setIfInBounds_toArray, List.set_cons_zero, List.set_cons_succ]
      refine qE_part (by rfl) _ (.tmp 34) rfl 0 g4 5 77 (rungL p31a p31b p31c p31d) (elemL p31b) _ rfl rfl (rungL_1 _ _ _ _) Try.underlying45 rfl (by rw [elemL_length]; exact Try.sz5e) ?_
      simp only [Act.put, List.setIfInBounds_toArray, List.set_cons_zero, List.set_cons_succ]
      refine q_call (by rfl) 43 _ (fun W => by go_simp) (fun W hW => hW.calls (C36.out W)) ?_
      simp only [Act.put, List.setIfInBounds_toArray, List.set_cons_zero, List.set_cons_succ]
      refine q_call (by rfl) 42 _ (fun W => by go_simp) (fun W hW => hW.calls (C37.out W)) ?_
      simp only [Act.put, List.setIfInBounds_toArray, List.set_cons_zero, List.set_cons_succ]
      refine wpQuiet_nil ?_
      intro w43 T3
      have E3 := Lib.hid T3
      clear T3 E2
      go_wp2_with (first
        | ((with_reducible refine wpE_store (o := ⟨none, _, _, _, _, _⟩) rfl 45 (.tmp 4) (.tmp 37) rfl 1 g3 45 (natsC (zero5)) (natsC (elemL v37)) (by with_unfolding_all rfl) (by with_unfolding_all rfl) (by with_unfolding_all rfl) (natsC_same zero5_length (elemL_length _)) (sizeN Try.sz5e _ (elemL_length _)) (natsC_one _) E3.out ?_); intro w44 T4; simp only [List.set_cons_zero, List.set_cons_succ] at T4; have E4 := Lib.hid T4; clear T4))
      refine bodyPost_ret (results_cell_row rfl _ _ g3 45 (natsC (elemL v37)) (0, 0) _ rfl (E4.out.row 1 rfl) Try.underlying45 rfl (sizeN Try.sz5e _ (elemL_length _))) rfl ⟨?_, E4.out.below⟩
      rw [HR.out]
end Go.Proofs.Ytpgjcmccfpjmoaa
