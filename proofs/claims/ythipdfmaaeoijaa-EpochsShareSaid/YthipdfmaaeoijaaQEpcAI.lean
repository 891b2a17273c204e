/-
  Texts that belong together, merged: LadderD, E, LadderE, LadderF, Build0, EpcA. Conditions: as each theorem names them.
-/
import Derived.Test.YthipdfmaaeoijaaQEpcAH
import Derived.Test.YthipdfmaaeoijaaQEpcAE
import Derived.Deep.RegionLaw
import Derived.Test.YthipdfmaaeoijaaQEpcAF
import Derived.Test.YthipdfmaaeoijaaQEpcAA
import Derived.Laws.Tables
import Derived.Test.YthipdfmaaeoijaaQEpcAC
section
namespace Go.Proofs.Ythipdfmaaeoijaa
open Go.RowKit
set_option linter.unusedVariables false
set_option maxRecDepth 20000

/-- The rungs, as numbers. -/
structure RN where
  a : Nat
  b : Nat
  c : Nat
  d : Nat
def RN.swap (r : RN) (s : Bool) : RN := ⟨pickN s r.c r.a, pickN s r.d r.b, pickN s r.a r.c, pickN s r.b r.d⟩
def RN.next (u : Nat) (r : RN) : RN := ⟨next2 r.a r.b, nextz2 r.a r.b, next3 r.a r.b r.c r.d, nextz3 u r.a r.b r.c r.d⟩
def RN.Ok (r : RN) : Prop := r.a < pF ∧ r.b < pF ∧ r.c < pF ∧ r.d < pF
theorem RN.Ok.swap {r : RN} (h : r.Ok) (s : Bool) : (r.swap s).Ok := ⟨pickN_lt h.2.2.1 h.1, pickN_lt h.2.2.2 h.2.1, pickN_lt h.1 h.2.2.1, pickN_lt h.2.1 h.2.2.2⟩
theorem RN.next_ok (u : Nat) (r : RN) : (r.next u).Ok := ⟨modF_lt _, modF_lt _, modF_lt _, modF_lt _⟩
def lastN (key : List UInt8) : Nat → Bool
  | 0 => false
  | k + 1 => bitK key (254 - k)
def runN (key : List UInt8) (u : Nat) : Nat → RN
  | 0 => ⟨1, 0, u, 1⟩
  | k + 1 => ((runN key u k).swap (bitK key (254 - k) != lastN key k)).next u
theorem runN_ok (key : List UInt8) (u : Nat) (hu : u < pF) (k : Nat) : (runN key u k).Ok := by
  cases k with
  | zero => exact ⟨by show 1 < pF; decide, by show 0 < pF; decide, hu, by show 1 < pF; decide⟩
  | succ k => exact RN.next_ok _ _
def rungN (r : RN) : List Nat := rungL r.a r.b r.c r.d
def endN (key : List UInt8) (u : Nat) : RN := (runN key u 255).swap (lastN key 255)
/-- So many times a point. -/
def multN (key : List UInt8) (u : Nat) : Nat := (endN key u).a * invF (endN key u).b % pF
theorem multN_lt (key : List UInt8) (u : Nat) : multN key u < pF := modF_lt _
set_option maxHeartbeats 4000000 in
theorem multiple_any (key : List UInt8) (hkey : key.length = 32) (u : Nat) (bu : u < pF) (w : World) :
    Calls Try.prog 24 #[.agg (keyC key), .agg (natsC (elemL u))] w (RetV w (.agg (natsC (elemL (multN key u))))) := by
  have Lkey := Lib.hid hkey
  have HB := Lib.hid bu
  obtain ⟨v9, hv9⟩ : ∃ v, v = 1 := ⟨_, rfl⟩
  have bv9 : v9 < pF := by rw [hv9]; exact (by decide)
  have C9 : Hid (∀ w, Calls Try.prog 33 #[.int .u64 1] w (RetV w (.agg (natsC (elemL v9))))) := by rw [hv9]; exact fun w => Small_any 1 (by decide) w
  have H0 : Hid (natsC (rungL v9 0 u v9) = natsC (rungN (runN key u 0))) := by show _ = _; rw [rungN, runN, hv9]
  clear hv9 bv9
  have E0 := Lib.hid (Env.start w)
  go_enter Try.func24, Try.ntmps24
  go_wp2_with (first
    | ((with_reducible refine wpE_box (o := ⟨some 2, _, _, _, _, _⟩) rfl 32 (.tmp 0) rfl (keyC (key)) (by with_unfolding_all rfl) E0.out ?_); intro g1 w1 T1; have E1 := Lib.hid T1; clear T1)
    | ((with_reducible refine wpE_box (o := ⟨some 3, _, _, _, _, _⟩) rfl 59 (.tmp 1) rfl (natsC (elemL u)) (by with_unfolding_all rfl) E1.out ?_); intro g2 w2 T2; have E2 := Lib.hid T2; clear T2)
    | ((with_reducible refine wpE_alloc (o := ⟨some 4, _, _, _, _, _⟩) rfl 59 rfl (natsC (zero5)) Try.zero5e E2.out ?_); intro g3 w3 T3; have E3 := Lib.hid T3; clear T3))
  refine region_state (N := 38) E3.out (by kernel_rfl) [(0, .agg (natsC (elemL v9))), (1, .agg (natsC (elemL u))), (2, .agg (natsC (elemL v9))), (3, .agg (natsC (rungL v9 0 u v9)))] [⟨4, 5, 77, (natsC (rungL 0 0 0 0)), (natsC (rungL v9 0 u v9))⟩] [9, 10, 11, 12, 5] (by kernel_rfl) (by kernel_rfl) (by rfl) ⟨?_, ?_, ?_, ?_, trivial⟩ ⟨?_, trivial⟩ ?_
  · refine valE_call 0 _ 33 #[.int .u64 1] (fun w => C9.out w) (fun o ho ac wc h1 h2 => ?_)
    obtain rfl := Option.some.inj ho
    exact run_call_func 33 _ _ rfl _ (by simp [Act.eval]) (by go_simp)
  · refine valE_run 1 _ (fun o ho ac wc h1 h2 hE => ?_)
    obtain rfl := Option.some.inj ho
    have e3 : ac.tmps.getD 3 undef = .pointer (some ⟨g2, 0, none⟩) := h2 3 (by kernel_rfl)
    exact run_load_row _ (.tmp 3) rfl g2 e3 59 (natsC (elemL u)) (0, 0) _ (hE.row 1 rfl) Try.underlying59 rfl (sizeN Try.sz5e _ (elemL_length _))
  · refine valE_call 2 _ 33 #[.int .u64 1] (fun w => C9.out w) (fun o ho ac wc h1 h2 => ?_)
    obtain rfl := Option.some.inj ho
    exact run_call_func 33 _ _ rfl _ (by simp [Act.eval]) (by go_simp)
  · refine valE_run 3 _ (fun o ho ac wc h1 h2 hE => ?_)
    obtain rfl := Option.some.inj ho
    have e9 : ac.tmps.getD 9 undef = .agg (natsC (elemL v9)) := h1 0 _ rfl (by kernel_rfl) 9 rfl
    have e10 : ac.tmps.getD 10 undef = .agg (natsC (elemL u)) := h1 1 _ rfl (by kernel_rfl) 10 rfl
    have e11 : ac.tmps.getD 11 undef = .agg (natsC (elemL v9)) := h1 2 _ rfl (by kernel_rfl) 11 rfl
    exact run_buildR3 (.tmp 9) (.tmp 10) (.tmp 11) rfl v9 u v9 e9 e10 e11
  · exact ⟨⟨_, rfl, rfl, Try.zeroR⟩, _, 5, 12, 3, rfl, rfl, by kernel_rfl, by kernel_rfl, natsC_same (rungL_length _ _ _ _) (rungL_length _ _ _ _), (sizeN Try.szR _ (rungL_length _ _ _ _)), natsC_one _, by kernel_rfl, rfl⟩
  intro G w4 T4
  obtain ⟨g4, hg4⟩ : ∃ g, g = G 4 := ⟨_, rfl⟩
  simp only [List.map_cons, List.map_nil, List.cons_append, List.nil_append, ← hg4] at T4
  simp only [List.map_cons, List.map_nil, List.cons_append, List.nil_append, List.zip_cons_cons, List.zip_nil_right, putAll, ptrE, Act.put, List.setIfInBounds_toArray, List.set_cons_zero, List.set_cons_succ, ← hg4]
  have E4 := Lib.hid T4
  clear T4 E3 hg4 G
  have EA := E4.out
  rw [H0.out] at EA
  have EB := Lib.hid EA
  clear EA E4 H0
  go_wp2_with fail
  go_loopw [6, 13] (fun last i wr => ∃ k : Nat, k ≤ 255 ∧ i = .int .i64 k ∧ last = .bool (lastN key k) ∧ Env w [(g4, 77, natsC (rungN (runN key u (k)))), (g3, 59, natsC (zero5)), (g2, 59, natsC (elemL u)), (g1, 32, keyC (key))] wr) (fun _ i _ => 255 - (intOf i).toNat)
  case atStart => exact ⟨0, by omega, rfl, rfl, EB.out⟩
  case round =>
    clear EB
    obtain ⟨k, hk, rfl, rfl, hE⟩ := hrel
    have hok := runN_ok key u HB.out k
    by_cases hlt : k < 255
    · have hnext : runN key u (k + 1) = ((runN key u k).swap (bitK key (254 - k) != lastN key k)).next u := rfl
      have hlast : lastN key (k + 1) = bitK key (254 - k) := rfl
      obtain ⟨m, hm⟩ : ∃ m, m = 254 - k := ⟨_, rfl⟩
      rw [← hm] at hnext hlast
      obtain ⟨bt, hbt⟩ : ∃ b, b = bitK key m := ⟨_, rfl⟩
      rw [← hbt] at hnext hlast
      obtain ⟨lt, hltn⟩ : ∃ b, b = lastN key k := ⟨_, rfl⟩
      rw [← hltn] at hnext
      rw [← hltn]
      generalize runN key u k = r at hE hok hnext
      obtain ⟨ra, rb, rc, rd⟩ := r
      have bra : ra < pF := hok.1
      have brb : rb < pF := hok.2.1
      have brc : rc < pF := hok.2.2.1
      have brd : rd < pF := hok.2.2.2
      have e254 : (254 : Int) - (k : Int) = (m : Int) := by omega
      have E0 := Lib.hid (show Env w [(g4, 77, natsC (rungL ra rb rc rd)), (g3, 59, natsC (zero5)), (g2, 59, natsC (elemL u)), (g1, 32, keyC (key))] _ from hE)
      have bu := HB.out
      have C19 : Hid (∀ w, Calls Try.prog 34 #[.agg (keyC (key)), .int .i64 (m : Int)] w (RetV w (.bool bt))) := by rw [hbt]; exact fun w => isSet_any key hkey m (by omega) w
      obtain ⟨p24a, hp24a⟩ : ∃ v, v = pickN (!(bt == lt)) rc ra := ⟨_, rfl⟩
      have bp24a : p24a < pF := by rw [hp24a]; exact pickN_lt brc bra
      obtain ⟨p24b, hp24b⟩ : ∃ v, v = pickN (!(bt == lt)) rd rb := ⟨_, rfl⟩
      have bp24b : p24b < pF := by rw [hp24b]; exact pickN_lt brd brb
      obtain ⟨p24c, hp24c⟩ : ∃ v, v = pickN (!(bt == lt)) ra rc := ⟨_, rfl⟩
      have bp24c : p24c < pF := by rw [hp24c]; exact pickN_lt bra brc
      obtain ⟨p24d, hp24d⟩ : ∃ v, v = pickN (!(bt == lt)) rb rd := ⟨_, rfl⟩
      have bp24d : p24d < pF := by rw [hp24d]; exact pickN_lt brb brd
      have C24 : Hid (∀ w, Calls Try.prog 35 #[.agg (natsC (rungL ra rb rc rd)), .bool ((!(bt == lt)))] w (RetV w (.agg (natsC (rungL p24a p24b p24c p24d))))) := by rw [hp24a, hp24b, hp24c, hp24d]; exact fun w => swapped_any ra rb rc rd bra brb brc brd (!(bt == lt)) w
      obtain ⟨p26a, hp26a⟩ : ∃ v, v = next2 p24a p24b := ⟨_, rfl⟩
      have bp26a : p26a < pF := by rw [hp26a]; exact modF_lt _
      obtain ⟨p26b, hp26b⟩ : ∃ v, v = nextz2 p24a p24b := ⟨_, rfl⟩
      have bp26b : p26b < pF := by rw [hp26b]; exact modF_lt _
      obtain ⟨p26c, hp26c⟩ : ∃ v, v = next3 p24a p24b p24c p24d := ⟨_, rfl⟩
      have bp26c : p26c < pF := by rw [hp26c]; exact modF_lt _
      obtain ⟨p26d, hp26d⟩ : ∃ v, v = nextz3 u p24a p24b p24c p24d := ⟨_, rfl⟩
      have bp26d : p26d < pF := by rw [hp26d]; exact modF_lt _
      have C26 : Hid (∀ w, Calls Try.prog 36 #[.agg (natsC (rungL p24a p24b p24c p24d)), .agg (natsC (elemL u))] w (RetV w (.agg (natsC (rungL p26a p26b p26c p26d))))) := by rw [hp26a, hp26b, hp26c, hp26d]; exact fun w => next_any p24a p24b p24c p24d u bp24a bp24b bp24c bp24d bu w
      have HS : Hid (natsC (rungL p26a p26b p26c p26d) = natsC (rungN (runN key u (k + 1)))) := by show _ = _; rw [hnext, hp26a, hp26b, hp26c, hp26d, hp24a, hp24b, hp24c, hp24d]; rfl
      have HL : Hid (lastN key (k + 1) = bt) := hlast
      clear hp24a bp24a hp24b bp24b hp24c bp24c hp24d bp24d hp26a bp26a hp26b bp26b hp26c bp26c hp26d bp26d hnext hlast hbt hltn hm bra brb brc brd hok hE bu
      go_wp2_with (first
        | (with_reducible refine wpE_load (o := ⟨some 16, _, _, _, _, _⟩) rfl 32 (.tmp 2) rfl 3 g1 32 (keyC (key)) _ (by with_unfolding_all rfl) (by with_unfolding_all rfl) Try.underlying32 rfl (Try.sizeKey _ Lkey.out) E0.out ?_))
      refine (C19.out _).mono ?_
      rintro e w41 ⟨rfl, b41⟩
      have E1 := Lib.hid (E0.out.call b41)
      clear b41 E0
      go_wp2_with fail
      refine region_class_tail 7 _ E1.out.drew (by kernel_rfl) (by kernel_rfl) ?_
      simp only [List.take_succ_cons, List.take_zero, List.drop_succ_cons, List.drop_zero]
      refine qE_load (by rfl) _ (.tmp 5) rfl 0 g4 77 (natsC (rungL ra rb rc rd)) _ rfl rfl Try.underlying77 rfl (sizeN Try.szR _ (rungL_length _ _ _ _)) ?_
      simp only [Act.put, List.setIfInBounds_toArray, List.set_cons_zero, List.set_cons_succ]
      refine q_run (by rfl) (v := .bool bt) (fun W _ => by go_simp) ?_
      simp only [Act.put, List.setIfInBounds_toArray, List.set_cons_zero, List.set_cons_succ]
      refine q_run (by rfl) (v := .bool lt) (fun W _ => by go_simp) ?_
      simp only [Act.put, List.setIfInBounds_toArray, List.set_cons_zero, List.set_cons_succ]
      refine q_run (by rfl) (v := .bool ((!(bt == lt)))) (fun W _ => by go_simp) ?_
      simp only [Act.put, List.setIfInBounds_toArray, List.set_cons_zero, List.set_cons_succ]
      refine q_call (by rfl) 35 _ (fun W => by go_simp) (fun W hW => hW.calls (C24.out W)) ?_
      simp only [Act.put, List.setIfInBounds_toArray, List.set_cons_zero, List.set_cons_succ]
      refine qE_load (by rfl) _ (.tmp 3) rfl 2 g2 59 (natsC (elemL u)) _ rfl rfl Try.underlying59 rfl (sizeN Try.sz5e _ (elemL_length _)) ?_
      simp only [Act.put, List.setIfInBounds_toArray, List.set_cons_zero, List.set_cons_succ]
      refine q_call (by rfl) 36 _ (fun W => by go_simp) (fun W hW => hW.calls (C26.out W)) ?_
      simp only [Act.put, List.setIfInBounds_toArray, List.set_cons_zero, List.set_cons_succ]
      refine wpQuiet_nil ?_
      intro w42 T2
      have E2 := Lib.hid T2
      clear T2 E1
      go_wp2_with (first
        | ((with_reducible refine wpE_store (o := ⟨none, _, _, _, _, _⟩) rfl 77 (.tmp 5) (.tmp 26) rfl 0 g4 77 (natsC (rungL ra rb rc rd)) (natsC (rungL p26a p26b p26c p26d)) (by with_unfolding_all rfl) (by with_unfolding_all rfl) (by with_unfolding_all rfl) (natsC_same (rungL_length _ _ _ _) (rungL_length _ _ _ _)) (sizeN Try.szR _ (rungL_length _ _ _ _)) (natsC_one _) E2.out ?_); intro w43 T3; simp only [List.set_cons_zero] at T3; have E3 := Lib.hid T3; clear T3))
      go_roundw
      case rel => exact ⟨k + 1, by omega, by go_num, by rw [HL.out], by rw [← HS.out]; exact E3.out⟩
      case measure => simp [intOf]; omega
    · have hk255 : k = 255 := by omega
      subst hk255
      have hend : endN key u = (runN key u 255).swap (lastN key 255) := rfl
      have hmul : multN key u = (endN key u).a * invF (endN key u).b % pF := rfl
      generalize runN key u 255 = r at hE hok hend
      obtain ⟨ra, rb, rc, rd⟩ := r
      have bra : ra < pF := hok.1
      have brb : rb < pF := hok.2.1
      have brc : rc < pF := hok.2.2.1
      have brd : rd < pF := hok.2.2.2
      generalize lastN key 255 = lt at hend ⊢
      have E0 := Lib.hid (show Env w [(g4, 77, natsC (rungL ra rb rc rd)), (g3, 59, natsC (zero5)), (g2, 59, natsC (elemL u)), (g1, 32, keyC (key))] _ from hE)
      obtain ⟨p31a, hp31a⟩ : ∃ v, v = pickN lt rc ra := ⟨_, rfl⟩
      have bp31a : p31a < pF := by rw [hp31a]; exact pickN_lt brc bra
      obtain ⟨p31b, hp31b⟩ : ∃ v, v = pickN lt rd rb := ⟨_, rfl⟩
      have bp31b : p31b < pF := by rw [hp31b]; exact pickN_lt brd brb
      obtain ⟨p31c, hp31c⟩ : ∃ v, v = pickN lt ra rc := ⟨_, rfl⟩
      have bp31c : p31c < pF := by rw [hp31c]; exact pickN_lt bra brc
      obtain ⟨p31d, hp31d⟩ : ∃ v, v = pickN lt rb rd := ⟨_, rfl⟩
      have bp31d : p31d < pF := by rw [hp31d]; exact pickN_lt brb brd
      have C31 : Hid (∀ w, Calls Try.prog 35 #[.agg (natsC (rungL ra rb rc rd)), .bool lt] w (RetV w (.agg (natsC (rungL p31a p31b p31c p31d))))) := by rw [hp31a, hp31b, hp31c, hp31d]; exact fun w => swapped_any ra rb rc rd bra brb brc brd lt w
      obtain ⟨v36, hv36⟩ : ∃ v, v = invF p31b := ⟨_, rfl⟩
      have bv36 : v36 < pF := by rw [hv36]; exact invF_lt _
      have C36 : Hid (∀ w, Calls Try.prog 38 #[.agg (natsC (elemL p31b))] w (RetV w (.agg (natsC (elemL v36))))) := by rw [hv36]; exact fun w => Invert_any p31b bp31b w
      obtain ⟨v37, hv37⟩ : ∃ v, v = p31a * v36 % pF := ⟨_, rfl⟩
      have bv37 : v37 < pF := by rw [hv37]; exact modF_lt _
      have C37 : Hid (∀ w, Calls Try.prog 37 #[.agg (natsC (elemL p31a)), .agg (natsC (elemL v36))] w (RetV w (.agg (natsC (elemL v37))))) := by rw [hv37]; exact fun w => Mul_any p31a v36 bp31a bv36 w
      have HR : Hid (natsC (elemL (multN key u)) = natsC (elemL v37)) := by show _ = _; rw [hmul, hend, hv37, hv36, hp31a, hp31b]; rfl
      clear hp31a bp31a hp31b bp31b hp31c bp31c hp31d bp31d hv36 bv36 hv37 bv37 hend hmul bra brb brc brd hok hE
      go_wp2_with (first
        | (with_reducible refine wpE_load (o := ⟨some 29, _, _, _, _, _⟩) rfl 77 (.tmp 5) rfl 0 g4 77 (natsC (rungL ra rb rc rd)) _ (by with_unfolding_all rfl) (by with_unfolding_all rfl) Try.underlying77 rfl (sizeN Try.szR _ (rungL_length _ _ _ _)) E0.out ?_))
      refine (C31.out _).mono ?_
      rintro e w41 ⟨rfl, b41⟩
      have E1 := Lib.hid (E0.out.call b41)
      clear b41 E0
      go_wp2_with (first
        | ((with_reducible refine wpE_store (o := ⟨none, _, _, _, _, _⟩) rfl 77 (.tmp 5) (.tmp 31) rfl 0 g4 77 (natsC (rungL ra rb rc rd)) (natsC (rungL p31a p31b p31c p31d)) (by with_unfolding_all rfl) (by with_unfolding_all rfl) (by with_unfolding_all rfl) (natsC_same (rungL_length _ _ _ _) (rungL_length _ _ _ _)) (sizeN Try.szR _ (rungL_length _ _ _ _)) (natsC_one _) E1.out ?_); intro w42 T2; simp only [List.set_cons_zero] at T2; have E2 := Lib.hid T2; clear T2))
      refine region_class_tail 6 _ E2.out.drew (by kernel_rfl) (by kernel_rfl) ?_
      simp only [List.take_succ_cons, List.take_zero, List.drop_succ_cons, List.drop_zero]
      refine q_run (by rfl) (v := .pointer (some ⟨g4, 0, none⟩)) (fun W _ => by go_simp) ?_
      simp only [Act.put, List.setIfInBounds_toArray, List.set_cons_zero, List.set_cons_succ]
      refine qE_part (by rfl) _ (.tmp 32) rfl 0 g4 0 77 (rungL p31a p31b p31c p31d) (elemL p31a) _ rfl rfl (rungL_0 _ _ _ _) Try.underlying59 rfl (by rw [elemL_length]; exact Try.sz5e) ?_
      simp only [Act.put, List.setIfInBounds_toArray, List.set_cons_zero, List.set_cons_succ]
      refine q_run (by rfl) (v := .pointer (some ⟨g4, 5, none⟩)) (fun W _ => by go_simp) ?_
      simp only [Act.put, List.setIfInBounds_toArray, List.set_cons_zero, List.set_cons_succ]
      refine qE_part (by rfl) _ (.tmp 34) rfl 0 g4 5 77 (rungL p31a p31b p31c p31d) (elemL p31b) _ rfl rfl (rungL_1 _ _ _ _) Try.underlying59 rfl (by rw [elemL_length]; exact Try.sz5e) ?_
      simp only [Act.put, List.setIfInBounds_toArray, List.set_cons_zero, List.set_cons_succ]
      refine q_call (by rfl) 38 _ (fun W => by go_simp) (fun W hW => hW.calls (C36.out W)) ?_
      simp only [Act.put, List.setIfInBounds_toArray, List.set_cons_zero, List.set_cons_succ]
      refine q_call (by rfl) 37 _ (fun W => by go_simp) (fun W hW => hW.calls (C37.out W)) ?_
      simp only [Act.put, List.setIfInBounds_toArray, List.set_cons_zero, List.set_cons_succ]
      refine wpQuiet_nil ?_
      intro w43 T3
      have E3 := Lib.hid T3
      clear T3 E2
      go_wp2_with (first
        | ((with_reducible refine wpE_store (o := ⟨none, _, _, _, _, _⟩) rfl 59 (.tmp 4) (.tmp 37) rfl 1 g3 59 (natsC (zero5)) (natsC (elemL v37)) (by with_unfolding_all rfl) (by with_unfolding_all rfl) (by with_unfolding_all rfl) (natsC_same zero5_length (elemL_length _)) (sizeN Try.sz5e _ (elemL_length _)) (natsC_one _) E3.out ?_); intro w44 T4; simp only [List.set_cons_zero, List.set_cons_succ] at T4; have E4 := Lib.hid T4; clear T4))
      refine bodyPost_ret (results_cell_row rfl _ _ g3 59 (natsC (elemL v37)) (0, 0) _ rfl (E4.out.row 1 rfl) Try.underlying59 rfl (sizeN Try.sz5e _ (elemL_length _))) rfl ⟨?_, E4.out.below⟩
      rw [HR.out]
end Go.Proofs.Ythipdfmaaeoijaa
end
section
namespace Go.Proofs.Ythipdfmaaeoijaa
open Go.RowKit
set_option linter.unusedVariables false
set_option maxRecDepth 20000

theorem xor_byte (a b : UInt8) : bits .xor .u8 (a.toNat : Int) (b.toNat : Int) = ((a ^^^ b).toNat : Int) := by
  rw [u8_xor_nat _ _ a.toNat_lt b.toNat_lt, UInt8.toNat_xor]
theorem or_byte (a b : UInt8) : bits .or .u8 (a.toNat : Int) (b.toNat : Int) = ((a ||| b).toNat : Int) := by
  rw [u8_or_nat _ _ a.toNat_lt b.toNat_lt, UInt8.toNat_or]


theorem xorB_take (a b : List UInt8) (k : Nat) (ha : k < a.length) (hb : k < b.length) : (xorB a b).take (k + 1) = (xorB a b).take k ++ [a[k] ^^^ b[k]] := by
  have h : k < (xorB a b).length := by rw [xorB_length]; omega
  rw [List.take_succ_eq_append_getElem h, xorB_get a b k h ha hb]


/-- What is gathered of the differences of the first k places (0 stands for what is not there). -/
def gathered (a b : List UInt8) : Nat → UInt8
  | 0 => 0
  | k + 1 => gathered a b k ||| (a.getD k 0 ^^^ b.getD k 0)
theorem or_eq_zero (x y : UInt8) : x ||| y = 0 ↔ x = 0 ∧ y = 0 := by
  constructor
  · intro h
    have h1 : x.toNat ||| y.toNat = 0 := by rw [← UInt8.toNat_or, h]; rfl
    have h2 := Nat.or_eq_zero_iff.1 h1
    exact ⟨UInt8.toNat_inj.1 (by simpa using h2.1), UInt8.toNat_inj.1 (by simpa using h2.2)⟩
  · rintro ⟨rfl, rfl⟩; rfl
theorem xor_eq_zero (x y : UInt8) : x ^^^ y = 0 ↔ x = y := UInt8.xor_eq_zero_iff
theorem gathered_zero (a b : List UInt8) (k : Nat) : gathered a b k = 0 ↔ ∀ j, j < k → a.getD j 0 = b.getD j 0 := by
  induction k with
  | zero => simp [gathered]
  | succ k ih =>
    rw [gathered, or_eq_zero, ih, xor_eq_zero]
    constructor
    · rintro ⟨h1, h2⟩ j hj
      rcases Nat.lt_succ_iff_lt_or_eq.1 hj with h | h
      · exact h1 j h
      · rw [h]; exact h2
    · intro h
      exact ⟨fun j hj => h j (by omega), h k (by omega)⟩
theorem gathered_same (a b : List UInt8) (hl : a.length = b.length) : gathered a b (max a.length b.length) = 0 ↔ a = b := by
  rw [gathered_zero]
  constructor
  · intro h
    apply List.ext_getElem hl
    intro j h1 h2
    have := h j (by omega)
    simpa [List.getD_eq_getElem?_getD, h1, h2] using this
  · rintro rfl j _
    rfl

theorem at_any (w : World) (va : Value) (a : List UInt8) (ha : Bs w va a) (i : Nat) (hm : i ≤ maxLen) :
    Calls Try.prog 29 #[va, .int .i64 (i : Int)] w fun e w' => e = .returned (.int .u8 ((a.getD i 0).toNat : Int)) ∧ w = w' := by
  by_cases h : i < a.length
  · rw [List.getD_eq_getElem?_getD, List.getElem?_eq_getElem h]
    exact at_in w va a ha i h
  · rw [List.getD_eq_getElem?_getD, List.getElem?_eq_none (by omega)]
    exact at_out w va a ha i (by omega) hm

set_option maxHeartbeats 800000 in
theorem Same_any (w : World) (va vb : Value) (a b : List UInt8) (ha : Bs w va a) (hb : Bs w vb b) :
    Calls Try.prog 20 #[va, vb] w fun e w' => e = .returned (.bool (a == b)) ∧ w = w' := by
  have HA := Lib.hid ha
  have HBb := Lib.hid hb
  obtain ⟨A, ca, rfl, ha1, ha2, ha3⟩ := ha
  obtain ⟨B, cb, rfl, hb1, hb2, hb3⟩ := hb
  unfold maxLen at ha2 hb2
  clear ha3 hb3
  have hmax : max a.length b.length ≤ 9223372036854775807 := by omega
  by_cases hle : a.length < b.length
  all_goals
    go_enter Try.func20, Try.ntmps20
    go_wp2
    go_loop [5, 12] (fun d i => ∃ (k : Nat) (g : UInt8), k ≤ max a.length b.length ∧ i = .int .i64 k ∧ g = gathered a b k ∧ d = .int .u8 (g.toNat : Int)) (fun _ i => max a.length b.length - (intOf i).toNat)
    case atStart => exact ⟨0, 0, Nat.zero_le _, rfl, rfl, rfl⟩
    case round =>
      obtain ⟨k, g, hk, rfl, hg, rfl⟩ := hrel
      have HG := Lib.hid hg
      have hg8 := g.toNat_lt
      clear hg
      by_cases hlt : k < max a.length b.length
      · go_wp2_with fail
        refine (at_any _ _ a HA.out k (by unfold maxLen; omega)).mono ?_
        rintro e w' ⟨rfl, rfl⟩
        have hd1 := (a.getD k 0).toNat_lt
        go_wp2_with fail
        refine (at_any _ _ b HBb.out k (by unfold maxLen; omega)).mono ?_
        rintro e w' ⟨rfl, rfl⟩
        have hd2 := (b.getD k 0).toNat_lt
        go_wp2
        go_round
        case rel => exact ⟨k + 1, gathered a b (k + 1), by omega, by go_num, rfl, by rw [gathered, ← or_byte, ← xor_byte, HG.out]; first | (simp [show k < b.length by omega]; done) | (simp [show k < a.length by omega]; done)⟩
        case measure => simp [intOf]; omega
      · have hks : k = max a.length b.length := by omega
        by_cases hl : a.length = b.length
        · have hl1 : ((a.length : Int) == (b.length : Int)) = true := by simp [hl]
          by_cases hz : g = 0
          · have hz1 : ((g.toNat : Int) == 0) = true := by rw [hz]; rfl
            have hfin : (a == b) = true := by
              rw [beq_iff_eq, ← gathered_same a b hl, ← hks, ← HG.out, hz]
            have Hf := Lib.hid hfin
            clear hfin hl hz hks
            go_wp2
            go_ret
            exact ⟨by rw [Hf.out]; rfl, rfl⟩
          · have hz1 : ((g.toNat : Int) == 0) = false := by
              rw [beq_eq_false_iff_ne]; intro h; exact hz (UInt8.toNat_inj.1 (by simpa using h))
            have hfin : (a == b) = false := by
              rw [beq_eq_false_iff_ne]; intro h; rw [← gathered_same a b hl, ← hks, ← HG.out] at h; exact hz h
            have Hf := Lib.hid hfin
            clear hfin hl hz hks
            go_wp2
            go_ret
            exact ⟨by rw [Hf.out]; rfl, rfl⟩
        · have hl1 : ((a.length : Int) == (b.length : Int)) = false := by rw [beq_eq_false_iff_ne]; omega
          have hfin : (a == b) = false := by
            rw [beq_eq_false_iff_ne]; rintro rfl; exact hl rfl
          have Hf := Lib.hid hfin
          clear hfin hl hks
          by_cases hz : ((g.toNat : Int) == 0) = true
          · go_wp2
            go_ret
            exact ⟨by rw [Hf.out]; rfl, rfl⟩
          · have hz1 : ((g.toNat : Int) == 0) = false := by simpa using hz
            clear hz
            go_wp2
            go_ret
            exact ⟨by rw [Hf.out]; rfl, rfl⟩
end Go.Proofs.Ythipdfmaaeoijaa
end
section
namespace Go.Proofs.Ythipdfmaaeoijaa
open Go.RowKit
set_option linter.unusedVariables false
set_option maxRecDepth 20000

/-- A secret's product with a point. -/
def rawK (s p : List UInt8) : List UInt8 := lowB (multN (clampK s) (numK p)) 32
theorem rawK_length (s p : List UInt8) : (rawK s p).length = 32 := lowB_length _ _
def nineK : List UInt8 := 9 :: List.replicate 31 0
theorem nineK_length : nineK.length = 32 := rfl
theorem nineLit : keyC nineK = #[.int .u8 9, .int .u8 0, .int .u8 0, .int .u8 0, .int .u8 0, .int .u8 0, .int .u8 0, .int .u8 0, .int .u8 0, .int .u8 0, .int .u8 0, .int .u8 0, .int .u8 0, .int .u8 0, .int .u8 0, .int .u8 0, .int .u8 0, .int .u8 0, .int .u8 0, .int .u8 0, .int .u8 0, .int .u8 0, .int .u8 0, .int .u8 0, .int .u8 0, .int .u8 0, .int .u8 0, .int .u8 0, .int .u8 0, .int .u8 0, .int .u8 0, .int .u8 0] := rfl
set_option maxHeartbeats 2000000 in
theorem Raw_any (s p : List UInt8) (hs : s.length = 32) (hp : p.length = 32) (w : World) : Calls Try.prog 18 #[.agg (keyC s), .agg (keyC p)] w (RetV w (.agg (keyC (rawK s p)))) := by
  have Ls := Lib.hid hs
  have Lp := Lib.hid hp
  obtain ⟨v9, hv9⟩ : ∃ v, v = numK p := ⟨_, rfl⟩
  have bv9 : v9 < pF := by rw [hv9]; exact numK_lt _
  obtain ⟨f9, hf9⟩ : ∃ v, v = decide (ofLowB p < pF) := ⟨_, rfl⟩
  have C9 : Hid (∀ w, Calls Try.prog 19 #[.agg (keyC (p))] w (RetV w (.tuple #[.agg (natsC (elemL v9)), .bool f9]))) := by rw [hv9, hf9]; exact fun w => Of_any p hp w
  obtain ⟨k13, hk13⟩ : ∃ v, v = clampK s := ⟨_, rfl⟩
  have Lk13 : Hid (k13.length = 32) := by show _ = _; rw [hk13]; exact clampK_length _ hs
  have C13 : Hid (∀ w, Calls Try.prog 25 #[.agg (keyC (s))] w (RetV w (.agg (keyC (k13))))) := by rw [hk13]; exact fun w => Clamp_any s hs w
  obtain ⟨v15, hv15⟩ : ∃ v, v = multN k13 v9 := ⟨_, rfl⟩
  have bv15 : v15 < pF := by rw [hv15]; exact multN_lt _ _
  have C15 : Hid (∀ w, Calls Try.prog 24 #[.agg (keyC (k13)), .agg (natsC (elemL v9))] w (RetV w (.agg (natsC (elemL v15))))) := by rw [hv15]; exact fun w => multiple_any k13 Lk13.out v9 bv9 w
  obtain ⟨k16, hk16⟩ : ∃ v, v = lowB v15 32 := ⟨_, rfl⟩
  have Lk16 : Hid (k16.length = 32) := by show _ = _; rw [hk16]; exact lowB_length _ _
  have C16 : Hid (∀ w, Calls Try.prog 26 #[.agg (natsC (elemL v15))] w (RetV w (.agg (keyC (k16))))) := by rw [hk16]; exact fun w => Key_any v15 bv15 w
  have HR : Hid (keyC (rawK s p) = (keyC (k16))) := by show _ = _; rw [rawK, hk16, hv15, hk13, hv9]
  clear hv9 bv9 hf9 hk13 hv15 bv15 hk16
  have E0 := Lib.hid (Env.start w)
  go_enter Try.func18, Try.ntmps18
  go_wp2_with (first
    | ((with_reducible refine wpE_box (o := ⟨some 2, _, _, _, _, _⟩) rfl 32 (.tmp 0) rfl (keyC (s)) (by with_unfolding_all rfl) E0.out ?_); intro g1 w1 T1; have E1 := Lib.hid T1; clear T1)
    | ((with_reducible refine wpE_box (o := ⟨some 3, _, _, _, _, _⟩) rfl 32 (.tmp 1) rfl (keyC (p)) (by with_unfolding_all rfl) E1.out ?_); intro g2 w2 T2; have E2 := Lib.hid T2; clear T2)
    | ((with_reducible refine wpE_alloc (o := ⟨some 4, _, _, _, _, _⟩) rfl 32 rfl (keyC (zeroKey)) Try.zeroK E2.out ?_); intro g3 w3 T3; have E3 := Lib.hid T3; clear T3)
    | (with_reducible refine wpE_load (o := ⟨some 8, _, _, _, _, _⟩) rfl 32 (.tmp 3) rfl 1 g2 32 (keyC (p)) _ (by with_unfolding_all rfl) (by with_unfolding_all rfl) Try.underlying32 rfl (Try.sizeKey _ Lp.out) E3.out ?_))
  refine (C9.out _).mono ?_
  rintro e w4 ⟨rfl, b4⟩
  have E4 := Lib.hid (E3.out.call b4)
  clear b4 E3
  go_wp2_with (first
    | ((with_reducible refine wpE_alloc (o := ⟨some 5, _, _, _, _, _⟩) rfl 59 rfl (natsC (zero5)) Try.zero5e E4.out ?_); intro g4 w5 T5; have E5 := Lib.hid T5; clear T5)
    | ((with_reducible refine wpE_store (o := ⟨none, _, _, _, _, _⟩) rfl 59 (.tmp 5) (.tmp 10) rfl 0 g4 59 (natsC (zero5)) (natsC (elemL v9)) (by with_unfolding_all rfl) (by with_unfolding_all rfl) (by with_unfolding_all rfl) (natsC_same zero5_length (elemL_length _)) (sizeN Try.sz5e _ (elemL_length _)) (natsC_one _) E5.out ?_); intro w6 T6; simp only [List.set_cons_zero] at T6; have E6 := Lib.hid T6; clear T6))
  refine region_class_tail 5 _ E6.out.drew (by kernel_rfl) (by kernel_rfl) ?_
  simp only [List.take_succ_cons, List.take_zero, List.drop_succ_cons, List.drop_zero]
  refine qE_load (by rfl) _ (.tmp 2) rfl 3 g1 32 (keyC (s)) _ rfl rfl Try.underlying32 rfl (Try.sizeKey _ Ls.out) ?_
  simp only [Act.put, List.setIfInBounds_toArray, List.set_cons_zero, List.set_cons_succ]
  refine q_call (by rfl) 25 _ (fun W => by go_simp) (fun W hW => hW.calls (C13.out W)) ?_
  simp only [Act.put, List.setIfInBounds_toArray, List.set_cons_zero, List.set_cons_succ]
  refine qE_load (by rfl) _ (.tmp 5) rfl 0 g4 59 (natsC (elemL v9)) _ rfl rfl Try.underlying59 rfl (sizeN Try.sz5e _ (elemL_length _)) ?_
  simp only [Act.put, List.setIfInBounds_toArray, List.set_cons_zero, List.set_cons_succ]
  refine q_call (by rfl) 24 _ (fun W => by go_simp) (fun W hW => hW.calls (C15.out W)) ?_
  simp only [Act.put, List.setIfInBounds_toArray, List.set_cons_zero, List.set_cons_succ]
  refine q_call (by rfl) 26 _ (fun W => by go_simp) (fun W hW => hW.calls (C16.out W)) ?_
  simp only [Act.put, List.setIfInBounds_toArray, List.set_cons_zero, List.set_cons_succ]
  refine wpQuiet_nil ?_
  intro w7 T7
  have E7 := Lib.hid T7
  clear T7 E6
  go_wp2_with (first
    | ((with_reducible refine wpE_store (o := ⟨none, _, _, _, _, _⟩) rfl 32 (.tmp 4) (.tmp 16) rfl 1 g3 32 (keyC (zeroKey)) (keyC (k16)) (by with_unfolding_all rfl) (by with_unfolding_all rfl) (by with_unfolding_all rfl) (keyC_same zeroKey_length Lk16.out) (Try.sizeKey _ Lk16.out) (keyC_one _) E7.out ?_); intro w8 T8; simp only [List.set_cons_zero, List.set_cons_succ] at T8; have E8 := Lib.hid T8; clear T8))
  refine bodyPost_ret (results_cell_row rfl _ _ g3 32 (keyC (k16)) (0, 0) _ rfl (E8.out.row 1 rfl) Try.underlying32 rfl (Try.sizeKey _ Lk16.out)) rfl ⟨?_, E8.out.below⟩
  rw [HR.out]
set_option maxHeartbeats 2000000 in
theorem Public_any (s : List UInt8) (hs : s.length = 32) (w : World) : Calls Try.prog 14 #[.agg (keyC s)] w (RetV w (.agg (keyC (rawK s nineK)))) := by
  have Ls := Lib.hid hs
  obtain ⟨k5, hk5⟩ : ∃ v, v = rawK s nineK := ⟨_, rfl⟩
  have Lk5 : Hid (k5.length = 32) := by show _ = _; rw [hk5]; exact rawK_length _ _
  have C5 : Hid (∀ w, Calls Try.prog 18 #[.agg (keyC (s)), .agg #[.int .u8 9, .int .u8 0, .int .u8 0, .int .u8 0, .int .u8 0, .int .u8 0, .int .u8 0, .int .u8 0, .int .u8 0, .int .u8 0, .int .u8 0, .int .u8 0, .int .u8 0, .int .u8 0, .int .u8 0, .int .u8 0, .int .u8 0, .int .u8 0, .int .u8 0, .int .u8 0, .int .u8 0, .int .u8 0, .int .u8 0, .int .u8 0, .int .u8 0, .int .u8 0, .int .u8 0, .int .u8 0, .int .u8 0, .int .u8 0, .int .u8 0, .int .u8 0]] w (RetV w (.agg (keyC (k5))))) := by rw [hk5]; exact fun w => by have h := Raw_any s nineK hs nineK_length w; rw [nineLit] at h; exact h
  have HR : Hid (keyC (rawK s nineK) = (keyC (k5))) := by show _ = _; rw [hk5]
  clear hk5
  have E0 := Lib.hid (Env.start w)
  go_enter Try.func14, Try.ntmps14
  go_wp2_with (first
    | ((with_reducible refine wpE_box (o := ⟨some 1, _, _, _, _, _⟩) rfl 32 (.tmp 0) rfl (keyC (s)) (by with_unfolding_all rfl) E0.out ?_); intro g1 w1 T1; have E1 := Lib.hid T1; clear T1)
    | ((with_reducible refine wpE_alloc (o := ⟨some 2, _, _, _, _, _⟩) rfl 32 rfl (keyC (zeroKey)) Try.zeroK E1.out ?_); intro g2 w2 T2; have E2 := Lib.hid T2; clear T2)
    | (with_reducible refine wpE_load (o := ⟨some 3, _, _, _, _, _⟩) rfl 32 (.tmp 1) rfl 1 g1 32 (keyC (s)) _ (by with_unfolding_all rfl) (by with_unfolding_all rfl) Try.underlying32 rfl (Try.sizeKey _ Ls.out) E2.out ?_))
  refine (C5.out _).mono ?_
  rintro e w3 ⟨rfl, b3⟩
  have E3 := Lib.hid (E2.out.call b3)
  clear b3 E2
  go_wp2_with (first
    | ((with_reducible refine wpE_store (o := ⟨none, _, _, _, _, _⟩) rfl 32 (.tmp 2) (.tmp 5) rfl 0 g2 32 (keyC (zeroKey)) (keyC (k5)) (by with_unfolding_all rfl) (by with_unfolding_all rfl) (by with_unfolding_all rfl) (keyC_same zeroKey_length Lk5.out) (Try.sizeKey _ Lk5.out) (keyC_one _) E3.out ?_); intro w4 T4; simp only [List.set_cons_zero] at T4; have E4 := Lib.hid T4; clear T4))
  refine bodyPost_ret (results_cell_row rfl _ _ g2 32 (keyC (k5)) (0, 0) _ rfl (E4.out.row 0 rfl) Try.underlying32 rfl (Try.sizeKey _ Lk5.out)) rfl ⟨?_, E4.out.below⟩
  rw [HR.out]
end Go.Proofs.Ythipdfmaaeoijaa
end
section
namespace Go.Proofs.Ythipdfmaaeoijaa
open Go.RowKit
set_option linter.unusedVariables false
set_option maxRecDepth 20000

theorem keyBs {w : World} {g : Nat} {t : TypeId} {l : List UInt8} (h : RowAt w g t (keyC l)) (hl : l.length = 32) : Bs w (.slice (some ⟨g, 0, none⟩) 32 32) l := by
  refine ⟨some ⟨g, 0, none⟩, 32, by rw [hl], by omega, by unfold maxLen; omega, fun _ => ⟨g, 0, rfl, fun i hi => ?_⟩⟩
  rw [Nat.zero_add]
  exact keyC_cell h i hi
/-- What Mult answers. -/
def multK (s p : List UInt8) : List UInt8 := if ofLowB p < pF then rawK s p else zeroKey
def multE (s p : List UInt8) : Int := if ofLowB p < pF then (if rawK s p = zeroKey then 30 else 0) else 30
theorem multK_length (s p : List UInt8) : (multK s p).length = 32 := by unfold multK; split; exact rawK_length _ _; exact zeroKey_length
set_option maxHeartbeats 2000000 in
theorem Mult_any (s p : List UInt8) (hs : s.length = 32) (hp : p.length = 32) (w : World) : Calls Try.prog 15 #[.agg (keyC s), .agg (keyC p)] w (RetV w (.tuple #[.agg (keyC (multK s p)), .int .i64 (multE s p)])) := by
  have Ls := Lib.hid hs
  have Lp := Lib.hid hp
  by_cases hwh' : ofLowB p < pF
  · have hwh : decide (ofLowB p < pF) = true := by simp [hwh']
    by_cases hqq : rawK s p = zeroKey
    · have heq : (rawK s p == zeroKey) = true := by rw [hqq]; exact beq_self_eq_true _
      obtain ⟨v12, hv12⟩ : ∃ v, v = numK p := ⟨_, rfl⟩
      have bv12 : v12 < pF := by rw [hv12]; exact numK_lt _
      have C12 : Hid (∀ w, Calls Try.prog 19 #[.agg (keyC (p))] w (RetV w (.tuple #[.agg (natsC (elemL v12)), .bool true]))) := by rw [hv12]; exact fun w => by have h := Of_any p hp w; rw [hwh] at h; exact h
      obtain ⟨k20, hk20⟩ : ∃ v, v = rawK s p := ⟨_, rfl⟩
      have Lk20 : Hid (k20.length = 32) := by show _ = _; rw [hk20]; exact rawK_length _ _
      have C20 : Hid (∀ w, Calls Try.prog 18 #[.agg (keyC (s)), .agg (keyC (p))] w (RetV w (.agg (keyC (k20))))) := by rw [hk20]; exact fun w => Raw_any s p hs hp w
      have HQ : Hid ((k20 == zeroKey) = true) := by show _ = _; rw [hk20]; exact heq
      have HR : Hid ((Value.tuple #[.agg (keyC (multK s p)), .int .i64 (multE s p)]) = .tuple #[.agg (keyC (zeroKey)), .int .i64 30]) := by show _ = _; unfold multK multE; rw [if_pos hwh', if_pos hwh', if_pos hqq, hqq]
      clear hv12 bv12 hk20
      have E0 := Lib.hid (Env.start w)
      go_enter Try.func15, Try.ntmps15
      go_wp2_with (first
        | ((with_reducible refine wpE_box (o := ⟨some 2, _, _, _, _, _⟩) rfl 32 (.tmp 0) rfl (keyC (s)) (by with_unfolding_all rfl) E0.out ?_); intro g1 w1 T1; have E1 := Lib.hid T1; clear T1)
        | ((with_reducible refine wpE_box (o := ⟨some 3, _, _, _, _, _⟩) rfl 32 (.tmp 1) rfl (keyC (p)) (by with_unfolding_all rfl) E1.out ?_); intro g2 w2 T2; have E2 := Lib.hid T2; clear T2)
        | ((with_reducible refine wpE_alloc (o := ⟨some 4, _, _, _, _, _⟩) rfl 32 rfl (keyC (zeroKey)) Try.zeroK E2.out ?_); intro g3 w3 T3; have E3 := Lib.hid T3; clear T3)
        | (with_reducible refine wpE_load (o := ⟨some 11, _, _, _, _, _⟩) rfl 32 (.tmp 3) rfl 1 g2 32 (keyC (p)) _ (by with_unfolding_all rfl) (by with_unfolding_all rfl) Try.underlying32 rfl (Try.sizeKey _ Lp.out) E3.out ?_))
      refine (C12.out _).mono ?_
      rintro e w4 ⟨rfl, b4⟩
      have E4 := Lib.hid (E3.out.call b4)
      clear b4 E3
      go_wp2_with (first
        | ((with_reducible refine wpE_alloc (o := ⟨some 6, _, _, _, _, _⟩) rfl 59 rfl (natsC (zero5)) Try.zero5e E4.out ?_); intro g4 w5 T5; have E5 := Lib.hid T5; clear T5)
        | ((with_reducible refine wpE_store (o := ⟨none, _, _, _, _, _⟩) rfl 59 (.tmp 6) (.tmp 13) rfl 0 g4 59 (natsC (zero5)) (natsC (elemL v12)) (by with_unfolding_all rfl) (by with_unfolding_all rfl) (by with_unfolding_all rfl) (natsC_same zero5_length (elemL_length _)) (sizeN Try.sz5e _ (elemL_length _)) (natsC_one _) E5.out ?_); intro w6 T6; simp only [List.set_cons_zero] at T6; have E6 := Lib.hid T6; clear T6)
        | ((with_reducible refine wpE_alloc (o := ⟨some 8, _, _, _, _, _⟩) rfl 32 rfl (keyC (zeroKey)) Try.zeroK E6.out ?_); intro g5 w7 T7; have E7 := Lib.hid T7; clear T7)
        | (with_reducible refine wpE_load (o := ⟨some 18, _, _, _, _, _⟩) rfl 32 (.tmp 2) rfl 4 g1 32 (keyC (s)) _ (by with_unfolding_all rfl) (by with_unfolding_all rfl) Try.underlying32 rfl (Try.sizeKey _ Ls.out) E7.out ?_)
        | (with_reducible refine wpE_load (o := ⟨some 19, _, _, _, _, _⟩) rfl 32 (.tmp 3) rfl 3 g2 32 (keyC (p)) _ (by with_unfolding_all rfl) (by with_unfolding_all rfl) Try.underlying32 rfl (Try.sizeKey _ Lp.out) E7.out ?_))
      refine (C20.out _).mono ?_
      rintro e w8 ⟨rfl, b8⟩
      have E8 := Lib.hid (E7.out.call b8)
      clear b8 E7
      go_wp2_with (first
        | ((with_reducible refine wpE_alloc (o := ⟨some 9, _, _, _, _, _⟩) rfl 32 rfl (keyC (zeroKey)) Try.zeroK E8.out ?_); intro g6 w9 T9; have E9 := Lib.hid T9; clear T9)
        | ((with_reducible refine wpE_store (o := ⟨none, _, _, _, _, _⟩) rfl 32 (.tmp 9) (.tmp 20) rfl 0 g6 32 (keyC (zeroKey)) (keyC (k20)) (by with_unfolding_all rfl) (by with_unfolding_all rfl) (by with_unfolding_all rfl) (keyC_same zeroKey_length Lk20.out) (Try.sizeKey _ Lk20.out) (keyC_one _) E9.out ?_); intro w10 T10; simp only [List.set_cons_zero] at T10; have E10 := Lib.hid T10; clear T10))
      refine region_class _ E10.out.drew (by kernel_rfl) (by kernel_rfl) ?_
      refine q_run (by rfl) (v := .slice (some ⟨g6, 0, none⟩) 32 32) (fun W _ => by go_simp) ?_
      simp only [Act.put, List.setIfInBounds_toArray, List.set_cons_zero, List.set_cons_succ]
      refine q_run (by rfl) (v := .slice (some ⟨g5, 0, none⟩) 32 32) (fun W _ => by go_simp) ?_
      simp only [Act.put, List.setIfInBounds_toArray, List.set_cons_zero, List.set_cons_succ]
      refine q_call (by rfl) 20 (v := .bool true) #[.slice (some ⟨g6, 0, none⟩) 32 32, .slice (some ⟨g5, 0, none⟩) 32 32] (fun W => by go_simp) (fun W hW => hW.callsQ (by have h := Same_any W _ _ k20 zeroKey (keyBs (hW.row 0 rfl) Lk20.out) (keyBs (hW.row 1 rfl) zeroKey_length); rw [HQ.out] at h; exact h)) ?_
      simp only [Act.put, List.setIfInBounds_toArray, List.set_cons_zero, List.set_cons_succ]
      refine wpQuiet_nil ?_
      intro w11 T11
      have E11 := Lib.hid T11
      clear T11 E10
      go_wp2_with (first
        | (with_reducible refine wpE_load (o := ⟨some 24, _, _, _, _, _⟩) rfl 32 (.tmp 8) rfl 1 g5 32 (keyC (zeroKey)) _ (by with_unfolding_all rfl) (by with_unfolding_all rfl) Try.underlying32 rfl (Try.sizeKey _ zeroKey_length) E11.out ?_)
        | ((with_reducible refine wpE_store (o := ⟨none, _, _, _, _, _⟩) rfl 32 (.tmp 4) (.tmp 24) rfl 3 g3 32 (keyC (zeroKey)) (keyC (zeroKey)) (by with_unfolding_all rfl) (by with_unfolding_all rfl) (by with_unfolding_all rfl) (keyC_same zeroKey_length zeroKey_length) (Try.sizeKey _ zeroKey_length) (keyC_one _) E11.out ?_); intro w12 T12; simp only [List.set_cons_zero, List.set_cons_succ] at T12; have E12 := Lib.hid T12; clear T12))
      refine bodyPost_ret (ret_row_tmp rfl _ g3 32 (keyC (zeroKey)) _ rfl (E12.out.row 3 rfl) Try.underlying32 rfl (Try.sizeKey _ zeroKey_length)) rfl ⟨?_, E12.out.below⟩
      rw [HR.out]
      rfl
    · have heq : (rawK s p == zeroKey) = false := by rw [beq_eq_false_iff_ne]; exact hqq
      obtain ⟨v12, hv12⟩ : ∃ v, v = numK p := ⟨_, rfl⟩
      have bv12 : v12 < pF := by rw [hv12]; exact numK_lt _
      have C12 : Hid (∀ w, Calls Try.prog 19 #[.agg (keyC (p))] w (RetV w (.tuple #[.agg (natsC (elemL v12)), .bool true]))) := by rw [hv12]; exact fun w => by have h := Of_any p hp w; rw [hwh] at h; exact h
      obtain ⟨k20, hk20⟩ : ∃ v, v = rawK s p := ⟨_, rfl⟩
      have Lk20 : Hid (k20.length = 32) := by show _ = _; rw [hk20]; exact rawK_length _ _
      have C20 : Hid (∀ w, Calls Try.prog 18 #[.agg (keyC (s)), .agg (keyC (p))] w (RetV w (.agg (keyC (k20))))) := by rw [hk20]; exact fun w => Raw_any s p hs hp w
      have HQ : Hid ((k20 == zeroKey) = false) := by show _ = _; rw [hk20]; exact heq
      have HR : Hid ((Value.tuple #[.agg (keyC (multK s p)), .int .i64 (multE s p)]) = .tuple #[.agg (keyC (k20)), .int .i64 0]) := by show _ = _; unfold multK multE; rw [if_pos hwh', if_pos hwh', if_neg hqq, hk20]
      clear hv12 bv12 hk20
      have E0 := Lib.hid (Env.start w)
      go_enter Try.func15, Try.ntmps15
      go_wp2_with (first
        | ((with_reducible refine wpE_box (o := ⟨some 2, _, _, _, _, _⟩) rfl 32 (.tmp 0) rfl (keyC (s)) (by with_unfolding_all rfl) E0.out ?_); intro g1 w1 T1; have E1 := Lib.hid T1; clear T1)
        | ((with_reducible refine wpE_box (o := ⟨some 3, _, _, _, _, _⟩) rfl 32 (.tmp 1) rfl (keyC (p)) (by with_unfolding_all rfl) E1.out ?_); intro g2 w2 T2; have E2 := Lib.hid T2; clear T2)
        | ((with_reducible refine wpE_alloc (o := ⟨some 4, _, _, _, _, _⟩) rfl 32 rfl (keyC (zeroKey)) Try.zeroK E2.out ?_); intro g3 w3 T3; have E3 := Lib.hid T3; clear T3)
        | (with_reducible refine wpE_load (o := ⟨some 11, _, _, _, _, _⟩) rfl 32 (.tmp 3) rfl 1 g2 32 (keyC (p)) _ (by with_unfolding_all rfl) (by with_unfolding_all rfl) Try.underlying32 rfl (Try.sizeKey _ Lp.out) E3.out ?_))
      refine (C12.out _).mono ?_
      rintro e w4 ⟨rfl, b4⟩
      have E4 := Lib.hid (E3.out.call b4)
      clear b4 E3
      go_wp2_with (first
        | ((with_reducible refine wpE_alloc (o := ⟨some 6, _, _, _, _, _⟩) rfl 59 rfl (natsC (zero5)) Try.zero5e E4.out ?_); intro g4 w5 T5; have E5 := Lib.hid T5; clear T5)
        | ((with_reducible refine wpE_store (o := ⟨none, _, _, _, _, _⟩) rfl 59 (.tmp 6) (.tmp 13) rfl 0 g4 59 (natsC (zero5)) (natsC (elemL v12)) (by with_unfolding_all rfl) (by with_unfolding_all rfl) (by with_unfolding_all rfl) (natsC_same zero5_length (elemL_length _)) (sizeN Try.sz5e _ (elemL_length _)) (natsC_one _) E5.out ?_); intro w6 T6; simp only [List.set_cons_zero] at T6; have E6 := Lib.hid T6; clear T6)
        | ((with_reducible refine wpE_alloc (o := ⟨some 8, _, _, _, _, _⟩) rfl 32 rfl (keyC (zeroKey)) Try.zeroK E6.out ?_); intro g5 w7 T7; have E7 := Lib.hid T7; clear T7)
        | (with_reducible refine wpE_load (o := ⟨some 18, _, _, _, _, _⟩) rfl 32 (.tmp 2) rfl 4 g1 32 (keyC (s)) _ (by with_unfolding_all rfl) (by with_unfolding_all rfl) Try.underlying32 rfl (Try.sizeKey _ Ls.out) E7.out ?_)
        | (with_reducible refine wpE_load (o := ⟨some 19, _, _, _, _, _⟩) rfl 32 (.tmp 3) rfl 3 g2 32 (keyC (p)) _ (by with_unfolding_all rfl) (by with_unfolding_all rfl) Try.underlying32 rfl (Try.sizeKey _ Lp.out) E7.out ?_))
      refine (C20.out _).mono ?_
      rintro e w8 ⟨rfl, b8⟩
      have E8 := Lib.hid (E7.out.call b8)
      clear b8 E7
      go_wp2_with (first
        | ((with_reducible refine wpE_alloc (o := ⟨some 9, _, _, _, _, _⟩) rfl 32 rfl (keyC (zeroKey)) Try.zeroK E8.out ?_); intro g6 w9 T9; have E9 := Lib.hid T9; clear T9)
        | ((with_reducible refine wpE_store (o := ⟨none, _, _, _, _, _⟩) rfl 32 (.tmp 9) (.tmp 20) rfl 0 g6 32 (keyC (zeroKey)) (keyC (k20)) (by with_unfolding_all rfl) (by with_unfolding_all rfl) (by with_unfolding_all rfl) (keyC_same zeroKey_length Lk20.out) (Try.sizeKey _ Lk20.out) (keyC_one _) E9.out ?_); intro w10 T10; simp only [List.set_cons_zero] at T10; have E10 := Lib.hid T10; clear T10))
      refine region_class _ E10.out.drew (by kernel_rfl) (by kernel_rfl) ?_
      refine q_run (by rfl) (v := .slice (some ⟨g6, 0, none⟩) 32 32) (fun W _ => by go_simp) ?_
      simp only [Act.put, List.setIfInBounds_toArray, List.set_cons_zero, List.set_cons_succ]
      refine q_run (by rfl) (v := .slice (some ⟨g5, 0, none⟩) 32 32) (fun W _ => by go_simp) ?_
      simp only [Act.put, List.setIfInBounds_toArray, List.set_cons_zero, List.set_cons_succ]
      refine q_call (by rfl) 20 (v := .bool false) #[.slice (some ⟨g6, 0, none⟩) 32 32, .slice (some ⟨g5, 0, none⟩) 32 32] (fun W => by go_simp) (fun W hW => hW.callsQ (by have h := Same_any W _ _ k20 zeroKey (keyBs (hW.row 0 rfl) Lk20.out) (keyBs (hW.row 1 rfl) zeroKey_length); rw [HQ.out] at h; exact h)) ?_
      simp only [Act.put, List.setIfInBounds_toArray, List.set_cons_zero, List.set_cons_succ]
      refine wpQuiet_nil ?_
      intro w11 T11
      have E11 := Lib.hid T11
      clear T11 E10
      go_wp2_with (first
        | (with_reducible refine wpE_load (o := ⟨some 25, _, _, _, _, _⟩) rfl 32 (.tmp 9) rfl 0 g6 32 (keyC (k20)) _ (by with_unfolding_all rfl) (by with_unfolding_all rfl) Try.underlying32 rfl (Try.sizeKey _ Lk20.out) E11.out ?_)
        | ((with_reducible refine wpE_store (o := ⟨none, _, _, _, _, _⟩) rfl 32 (.tmp 4) (.tmp 25) rfl 3 g3 32 (keyC (zeroKey)) (keyC (k20)) (by with_unfolding_all rfl) (by with_unfolding_all rfl) (by with_unfolding_all rfl) (keyC_same zeroKey_length Lk20.out) (Try.sizeKey _ Lk20.out) (keyC_one _) E11.out ?_); intro w12 T12; simp only [List.set_cons_zero, List.set_cons_succ] at T12; have E12 := Lib.hid T12; clear T12))
      refine bodyPost_ret (ret_row_tmp rfl _ g3 32 (keyC (k20)) _ rfl (E12.out.row 3 rfl) Try.underlying32 rfl (Try.sizeKey _ Lk20.out)) rfl ⟨?_, E12.out.below⟩
      rw [HR.out]
      rfl
  · have hwh : decide (ofLowB p < pF) = false := by simp [hwh']
    obtain ⟨v12, hv12⟩ : ∃ v, v = numK p := ⟨_, rfl⟩
    have bv12 : v12 < pF := by rw [hv12]; exact numK_lt _
    have C12 : Hid (∀ w, Calls Try.prog 19 #[.agg (keyC (p))] w (RetV w (.tuple #[.agg (natsC (elemL v12)), .bool false]))) := by rw [hv12]; exact fun w => by have h := Of_any p hp w; rw [hwh] at h; exact h
    have HR : Hid ((Value.tuple #[.agg (keyC (multK s p)), .int .i64 (multE s p)]) = .tuple #[.agg (keyC (zeroKey)), .int .i64 30]) := by show _ = _; unfold multK multE; rw [if_neg hwh', if_neg hwh']
    clear hv12 bv12
    have E0 := Lib.hid (Env.start w)
    go_enter Try.func15, Try.ntmps15
    go_wp2_with (first
      | ((with_reducible refine wpE_box (o := ⟨some 2, _, _, _, _, _⟩) rfl 32 (.tmp 0) rfl (keyC (s)) (by with_unfolding_all rfl) E0.out ?_); intro g1 w1 T1; have E1 := Lib.hid T1; clear T1)
      | ((with_reducible refine wpE_box (o := ⟨some 3, _, _, _, _, _⟩) rfl 32 (.tmp 1) rfl (keyC (p)) (by with_unfolding_all rfl) E1.out ?_); intro g2 w2 T2; have E2 := Lib.hid T2; clear T2)
      | ((with_reducible refine wpE_alloc (o := ⟨some 4, _, _, _, _, _⟩) rfl 32 rfl (keyC (zeroKey)) Try.zeroK E2.out ?_); intro g3 w3 T3; have E3 := Lib.hid T3; clear T3)
      | (with_reducible refine wpE_load (o := ⟨some 11, _, _, _, _, _⟩) rfl 32 (.tmp 3) rfl 1 g2 32 (keyC (p)) _ (by with_unfolding_all rfl) (by with_unfolding_all rfl) Try.underlying32 rfl (Try.sizeKey _ Lp.out) E3.out ?_))
    refine (C12.out _).mono ?_
    rintro e w4 ⟨rfl, b4⟩
    have E4 := Lib.hid (E3.out.call b4)
    clear b4 E3
    go_wp2_with (first
      | ((with_reducible refine wpE_alloc (o := ⟨some 6, _, _, _, _, _⟩) rfl 59 rfl (natsC (zero5)) Try.zero5e E4.out ?_); intro g4 w5 T5; have E5 := Lib.hid T5; clear T5)
      | ((with_reducible refine wpE_store (o := ⟨none, _, _, _, _, _⟩) rfl 59 (.tmp 6) (.tmp 13) rfl 0 g4 59 (natsC (zero5)) (natsC (elemL v12)) (by with_unfolding_all rfl) (by with_unfolding_all rfl) (by with_unfolding_all rfl) (natsC_same zero5_length (elemL_length _)) (sizeN Try.sz5e _ (elemL_length _)) (natsC_one _) E5.out ?_); intro w6 T6; simp only [List.set_cons_zero] at T6; have E6 := Lib.hid T6; clear T6)
      | ((with_reducible refine wpE_store (o := ⟨none, _, _, _, _, _⟩) rfl 32 (.tmp 4) (.tmp 17) rfl 1 g3 32 (keyC (zeroKey)) (keyC (zeroKey)) (by with_unfolding_all rfl) (by with_unfolding_all rfl) (by with_unfolding_all exact congrArg Value.agg zeroLit) (keyC_same zeroKey_length zeroKey_length) (Try.sizeKey _ zeroKey_length) (keyC_one _) E6.out ?_); intro w7 T7; simp only [List.set_cons_zero, List.set_cons_succ] at T7; have E7 := Lib.hid T7; clear T7))
    refine bodyPost_ret (ret_row_tmp rfl _ g3 32 (keyC (zeroKey)) _ rfl (E7.out.row 1 rfl) Try.underlying32 rfl (Try.sizeKey _ zeroKey_length)) rfl ⟨?_, E7.out.below⟩
    rw [HR.out]
    rfl
end Go.Proofs.Ythipdfmaaeoijaa
end
section
namespace Go.Proofs.Ythipdfmaaeoijaa
open Go.RowKit
set_option linter.unusedVariables false
set_option maxRecDepth 20000

/-- A type's zero is built. -/
theorem wpList_build0 {P : Program} {w : World} {ops : Array Oper} {rest : List Oper} {o : Oper} {a : Act} {Q : Exit → Act → World → Prop} (hgd : o.guard = none) (ty : TypeId) (ho : o.op = .build ty #[]) (z : Array Value)
    (hb : P.built ty [] = some z) (h : wpList P ops Q rest (a.put o.dst (.agg z)) w) : wpList P ops Q (o :: rest) a w :=
  wpList_plain hgd fun _ hK => by
    have hr := run_build (P := P) w ty #[] z hb
    unfold Oper.wp execOp
    simp only [ho]
    simp [hr]
    exact hK _ _ h
end Go.Proofs.Ythipdfmaaeoijaa
end
section
namespace Go.Proofs.Ythipdfmaaeoijaa
open Go.RowKit
set_option linter.unusedVariables false
set_option maxRecDepth 20000

/-- An epoch: its number, where its secret lies, its secret. -/
structure Ep where
  id : Nat
  blk : Nat
  key : List UInt8
def epsM (l : List Ep) : List (Nat × Value) := l.map fun e => (e.id, .pointer (some ⟨e.blk, 0, none⟩))
def epsR (l : List Ep) : List (Nat × TypeId × Array Value) := l.map fun e => (e.blk, 32, keyC e.key)
/-- The one with a number. -/
def epAt (id : Nat) : List Ep → Option Ep
  | [] => none
  | e :: l => if id = e.id then some e else epAt id l
theorem epAt_mem {id : Nat} {e : Ep} : ∀ {l : List Ep}, epAt id l = some e → e ∈ l ∧ e.id = id
  | x :: l, h => by
    unfold epAt at h
    split at h
    · cases h
      rename_i h
      exact ⟨List.mem_cons_self, h.symm⟩
    · exact ⟨List.mem_cons_of_mem _ (epAt_mem h).1, (epAt_mem h).2⟩
theorem epAt_none {id : Nat} : ∀ {l : List Ep}, (∀ e ∈ l, e.id ≠ id) → epAt id l = none
  | [], _ => rfl
  | x :: l, h => by
    unfold epAt
    rw [if_neg (fun e => h x List.mem_cons_self e.symm)]
    exact epAt_none fun e he => h e (List.mem_cons_of_mem _ he)
theorem epAt_get {l : List Ep} (hn : (l.map (·.id)).Nodup) {e : Ep} (he : e ∈ l) : epAt e.id l = some e := by
  induction l with
  | nil => cases he
  | cons x l ih =>
    obtain ⟨h1, h2⟩ := List.nodup_cons.1 hn
    unfold epAt
    rcases List.mem_cons.1 he with rfl | he
    · rw [if_pos rfl]
    · rw [if_neg (fun e1 => h1 (List.mem_map.2 ⟨e, he, e1⟩))]
      exact ih h2 he
theorem find_eps (id : Nat) : ∀ l : List Ep, findV id (epsM l) = (epAt id l).map fun e => Value.pointer (some ⟨e.blk, 0, none⟩)
  | [] => rfl
  | e :: l => by
    show findV id ((e.id, _) :: epsM l) = _
    unfold findV epAt
    split
    · rfl
    · exact find_eps id l
theorem epsM_keys (l : List Ep) : (epsM l).map (·.1) = l.map (·.id) := by simp [epsM, Function.comp_def]
theorem epsM_length (l : List Ep) : (epsM l).length = l.length := by simp [epsM]

/-- The table's two cells lie at k in block b. -/
structure TabW (w : World) (b k : Nat) (mb : Option Nat) (l : List Ep) (last : Nat) : Prop where
  cellM : w.cell? ⟨b, k, none⟩ = some (.map mb)
  cellL : w.cell? ⟨b, k + 1, none⟩ = some (.int .u32 (last : Int))
  map : MapIn .u32 w mb (epsM l)
  keys : ∀ e ∈ l, RowAt w e.blk 32 (keyC e.key) ∧ e.key.length = 32
theorem TabW.kept {w w' : World} {b k : Nat} {mb : Option Nat} {l : List Ep} {last : Nat} (h : TabW w b k mb l last) (hb : Below w.heap.size w w') : TabW w' b k mb l last :=
  ⟨(hb.cell (p := ⟨b, k, none⟩) (World.block_lt_of_cell? w _ h.cellM)).trans h.cellM, (hb.cell (p := ⟨b, k + 1, none⟩) (World.block_lt_of_cell? w _ h.cellL)).trans h.cellL, h.map.kept hb, fun e he => ⟨(h.keys e he).1.kept hb, (h.keys e he).2⟩⟩
def keyAt_ (id : Nat) (l : List Ep) : List UInt8 := match epAt id l with | some e => e.key | none => zeroKey
def codeAt (id : Nat) (l : List Ep) : Int := match epAt id l with | some _ => 0 | none => 80
theorem Try.zeroPK : (Try.prog.info? 46).map (·.zero) = some (some (.pointer none)) := by kernel_rfl
theorem Try.builtK0 : Try.prog.built 32 [] = some (keyC zeroKey) := by kernel_rfl

set_option maxHeartbeats 2000000 in
theorem secret_any (w : World) (b k : Nat) (mb : Option Nat) (l : List Ep) (last id : Nat) (hT : TabW w b k mb l last) :
    Calls Try.prog 9 #[.pointer (some ⟨b, k, none⟩), .int .u32 (id : Int)] w (RetV w (.tuple #[.agg (keyC (keyAt_ id l)), .int .i64 (codeAt id l)])) := by
  have hs0 : seenV true (.pointer none) (findV id (epsM l)) = match epAt id l with | some e => .tuple #[.pointer (some ⟨e.blk, 0, none⟩), .bool true] | none => .tuple #[.pointer none, .bool false] := by
    rw [find_eps]
    cases epAt id l <;> rfl
  unfold keyAt_ codeAt
  have HT := Lib.hid hT
  clear hT
  have E0 := Lib.hid (Env.start w)
  rcases hf : epAt id l with _ | e
  · have HS : Hid (seenV true (.pointer none) (findV id (epsM l)) = .tuple #[.pointer none, .bool false]) := by show _ = _; rw [hs0, hf]
    clear hs0 hf
    go_enter Try.func9, Try.ntmps9
    go_wp2_with (first
      | ((with_reducible refine wpE_alloc (o := ⟨some 4, _, _, _, _, _⟩) rfl 32 rfl (keyC (zeroKey)) Try.zeroK E0.out ?_); intro g1 w1 T1; have E1 := Lib.hid T1; have c1 := (HT.out.kept T1.below).cellM; clear T1)
      | ((with_reducible refine wpList_val (o := ⟨some 17, _, _, _, _, _⟩) rfl (.tuple #[.pointer none, .bool false]) (HS.out ▸ run_lookV (P := Try.prog) (.tmp 15) (.tmp 16) true rfl mb id (epsM l) (by with_unfolding_all rfl) (by with_unfolding_all rfl) (HT.out.kept E1.out.below).map Try.underlying26 Try.underlying22 (.pointer none) Try.zeroPK) ?_))
      | (with_reducible refine wpList_build0 (o := ⟨some 22, _, _, _, _, _⟩) rfl 32 rfl (keyC zeroKey) Try.builtK0 ?_)
      | ((with_reducible refine wpE_store (o := ⟨none, _, _, _, _, _⟩) rfl 32 (.tmp 4) (.tmp 22) rfl 0 g1 32 (keyC (zeroKey)) (keyC (zeroKey)) (by with_unfolding_all rfl) (by with_unfolding_all rfl) (by with_unfolding_all rfl) (keyC_same zeroKey_length zeroKey_length) (Try.sizeKey _ zeroKey_length) (keyC_one _) E1.out ?_); intro w2 T2; simp only [List.set_cons_zero] at T2; have E2 := Lib.hid T2; clear T2))
    refine bodyPost_ret (ret_row_tmp rfl _ g1 32 (keyC (zeroKey)) _ rfl (E2.out.row 0 rfl) Try.underlying32 rfl (Try.sizeKey _ zeroKey_length)) rfl ⟨rfl, E2.out.below⟩
  · obtain ⟨he, _⟩ := epAt_mem hf
    obtain ⟨hk, lk⟩ := HT.out.keys e he
    have HK := Lib.hid hk
    have LK := Lib.hid lk
    have HS : Hid (seenV true (.pointer none) (findV id (epsM l)) = .tuple #[.pointer (some ⟨e.blk, 0, none⟩), .bool true]) := by show _ = _; rw [hs0, hf]
    obtain ⟨p, hp⟩ : ∃ p, p = e.blk := ⟨_, rfl⟩
    obtain ⟨key, hkey⟩ : ∃ p, p = e.key := ⟨_, rfl⟩
    simp only [← hp, ← hkey] at HS HK LK ⊢
    clear hs0 hf he hk lk hp hkey
    go_enter Try.func9, Try.ntmps9
    go_wp2_with (first
      | ((with_reducible refine wpE_alloc (o := ⟨some 4, _, _, _, _, _⟩) rfl 32 rfl (keyC (zeroKey)) Try.zeroK E0.out ?_); intro g1 w1 T1; have E1 := Lib.hid T1; have c1 := (HT.out.kept T1.below).cellM; clear T1)
      | ((with_reducible refine wpList_val (o := ⟨some 17, _, _, _, _, _⟩) rfl (.tuple #[.pointer (some ⟨p, 0, none⟩), .bool true]) (HS.out ▸ run_lookV (P := Try.prog) (.tmp 15) (.tmp 16) true rfl mb id (epsM l) (by with_unfolding_all rfl) (by with_unfolding_all rfl) (HT.out.kept E1.out.below).map Try.underlying26 Try.underlying22 (.pointer none) Try.zeroPK) ?_))
      | (with_reducible refine wpList_load_row (o := ⟨some 25, _, _, _, _, _⟩) rfl 32 (.tmp 24) rfl p (by with_unfolding_all rfl) 32 (keyC key) (0, 0) _ (by with_unfolding_all exact (HK.out.kept E1.out.below)) Try.underlying32 rfl (Try.sizeKey _ LK.out) ?_)
      | ((with_reducible refine wpE_store (o := ⟨none, _, _, _, _, _⟩) rfl 32 (.tmp 4) (.tmp 25) rfl 0 g1 32 (keyC (zeroKey)) (keyC key) (by with_unfolding_all rfl) (by with_unfolding_all rfl) (by with_unfolding_all rfl) (keyC_same zeroKey_length LK.out) (Try.sizeKey _ LK.out) (keyC_one _) E1.out ?_); intro w2 T2; simp only [List.set_cons_zero] at T2; have E2 := Lib.hid T2; clear T2))
    refine bodyPost_ret (ret_row_tmp rfl _ g1 32 (keyC key) _ rfl (E2.out.row 0 rfl) Try.underlying32 rfl (Try.sizeKey _ LK.out)) rfl ⟨rfl, E2.out.below⟩
end Go.Proofs.Ythipdfmaaeoijaa
end
