/-
  Texts that belong together, merged: LadderRefB. Conditions: as each theorem names them.
-/
import Derived.Test.YtpgjcmccfpjmoaaQLadAH
import Derived.Test.YtpgjcmccfpjmoaaQLadAJ
import Derived.Test.YtpgjcmccfpjmoaaQLadAM
section
namespace Go.Proofs.Ytpgjcmccfpjmoaa
open Go.RowKit
set_option linter.unusedVariables false
set_option maxRecDepth 20000

theorem pick_eq {b l : Bool} (h : b = l) (x y : Nat) : pickN (b != l) x y = y := by subst h; cases b <;> rfl
theorem pick_ne {b l : Bool} (h : b ≠ l) (x y : Nat) : pickN (b != l) x y = x := by
  cases b <;> cases l <;> first | rfl | exact absurd rfl h
theorem i64_and_one (n : Int) : bits .and .i64 n 1 = n % 2 := by
  have h1 : (BitVec.ofInt 64 1).toNat = 2 ^ 1 - 1 := by decide
  have key : (BitVec.ofInt 64 n &&& BitVec.ofInt 64 1).toNat = (n % ((2 ^ 64 : Nat) : Int)).toNat % 2 ^ 1 := by
    rw [BitVec.toNat_and, BitVec.toNat_ofInt, h1, Nat.and_two_pow_sub_one_eq_mod]
  show IntKind.i64.wrap ((BitVec.ofInt 64 n &&& BitVec.ofInt 64 1).toNat : Nat) = n % 2
  rw [key, IntKind.wrap_i64]
  omega
theorem bit_int (x : UInt8) (r : Nat) : bits .and .i64 ((x.toNat : Int) / 2 ^ r) 1 = ((x.toNat / 2 ^ r % 2 : Nat) : Int) := by
  rw [i64_and_one]
  have e : ((x.toNat / 2 ^ r : Nat) : Int) = (x.toNat : Int) / 2 ^ r := by simp
  rw [← e]
  omega
theorem bit_wrap (x : UInt8) (r : Nat) : bits .and .i64 (RowKit.wrap64 ((x.toNat : Int) / 2 ^ r)) 1 = ((x.toNat / 2 ^ r % 2 : Nat) : Int) := by
  have e : ((x.toNat / 2 ^ r : Nat) : Int) = (x.toNat : Int) / 2 ^ r := by simp
  have h1 : x.toNat / 2 ^ r ≤ x.toNat := Nat.div_le_self _ _
  have h2 := x.toNat_lt
  have h3 : RowKit.wrap64 ((x.toNat : Int) / 2 ^ r) = (x.toNat : Int) / 2 ^ r := by
    rw [← e]
    generalize x.toNat / 2 ^ r = q at h1
    unfold RowKit.wrap64
    omega
  rw [h3]
  exact bit_int x r
theorem Env.tl {w0 w : World} {r : Nat × TypeId × Array Value} {rs : List (Nat × TypeId × Array Value)} (h : Env w0 (r :: rs) w) : Env w0 rs w := h.less (List.sublist_cons_self _ _)
def bitI (b : Bool) : Int := if b then 1 else 0
theorem bitI_of (n : Nat) : ((n % 2 : Nat) : Int) = bitI (n % 2 == 1) := by
  rcases Nat.mod_two_eq_zero_or_one n with h | h <;> rw [h] <;> rfl
set_option maxHeartbeats 40000000 in
theorem refRaw_any (s p : List UInt8) (hs : s.length = 32) (hp : p.length = 32) (w : World) :
    Calls Try.prog 15 #[.agg (keyC s), .agg (keyC p)] w (RetV w (.agg (keyC (rawK s p)))) := by
  have Ls := Lib.hid hs
  have Lp := Lib.hid hp
  obtain ⟨cs, hcs⟩ : ∃ v, v = clampK s := ⟨_, rfl⟩
  have hLc : cs.length = 32 := by rw [hcs]; exact clampK_length _ hs
  have Lc := Lib.hid hLc
  obtain ⟨u, hu⟩ : ∃ v, v = numK p := ⟨_, rfl⟩
  have bu : u < pF := by rw [hu]; exact numK_lt _
  have HB := Lib.hid bu
  have HRW : Hid (rawK s p = lowB (multN cs u) 32) := by show _ = _; rw [hcs, hu]; rfl
  have C24 : Hid (∀ w, Calls Try.prog 14 #[.agg (keyC (s))] w (RetV w (.agg (keyC (cs))))) := by rw [hcs]; exact fun w => refClamp_any s hs w
  obtain ⟨f27, hf27⟩ : ∃ v, v = decide (ofLowB p < pF) := ⟨_, rfl⟩
  have C27 : Hid (∀ w, Calls Try.prog 27 #[.agg (keyC (p))] w (RetV w (.tuple #[.agg (natsC (digR 16 u)), .bool f27]))) := by rw [hu, hf27]; exact fun w => refOf_any p hp w
  obtain ⟨v30, hv30⟩ : ∃ v, v = 1 := ⟨_, rfl⟩
  have bv30 : v30 < pF := by rw [hv30]; exact (by decide)
  have C30 : Hid (∀ w, Calls Try.prog 28 #[.int .u64 1] w (RetV w (.agg (natsC (digR 16 v30))))) := by rw [hv30]; exact fun w => refSmall_any 1 (by decide) w
  obtain ⟨v31, hv31⟩ : ∃ v, v = 0 := ⟨_, rfl⟩
  have bv31 : v31 < pF := by rw [hv31]; exact (by decide)
  have C31 : Hid (∀ w, Calls Try.prog 28 #[.int .u64 0] w (RetV w (.agg (natsC (digR 16 v31))))) := by rw [hv31]; exact fun w => refSmall_any 0 (by decide) w
  have H0 : Hid (v30 = 1 ∧ v31 = 0) := by show _ = _ ∧ _ = _; exact ⟨hv30, hv31⟩
  clear hf27 hv30 bv30 hv31 bv31 hu hcs hs hp
  have E0 := Lib.hid (Env.start w)
  go_enter Try.func15, Try.ntmps15
  go_wp2_with (first
    | ((with_reducible refine wpE_box (o := ⟨some 2, _, _, _, _, _⟩) rfl 23 (.tmp 0) rfl (keyC (s)) (by with_unfolding_all rfl) E0.out ?_); intro g1 w1 T1; have E1 := Lib.hid T1; clear T1)
    | ((with_reducible refine wpE_box (o := ⟨some 3, _, _, _, _, _⟩) rfl 23 (.tmp 1) rfl (keyC (p)) (by with_unfolding_all rfl) E1.out ?_); intro g2 w2 T2; have E2 := Lib.hid T2; clear T2)
    | ((with_reducible refine wpE_alloc (o := ⟨some 4, _, _, _, _, _⟩) rfl 23 rfl (keyC (zeroKey)) Try.zeroK E2.out ?_); intro g3 w3 T3; have E3 := Lib.hid T3; clear T3)
    | (with_reducible refine wpE_load (o := ⟨some 23, _, _, _, _, _⟩) rfl 23 (.tmp 2) rfl 2 g1 23 (keyC (s)) _ (by with_unfolding_all rfl) (by with_unfolding_all rfl) Try.underlying23 rfl (Try.sizeKey _ Ls.out) E3.out ?_))
  refine (C24.out _).mono ?_
  rintro e w4 ⟨rfl, b4⟩
  have E4 := Lib.hid (E3.out.call b4)
  clear b4 E3
  go_wp2_with (first
    | ((with_reducible refine wpE_alloc (o := ⟨some 5, _, _, _, _, _⟩) rfl 23 rfl (keyC (zeroKey)) Try.zeroK E4.out ?_); intro g4 w5 T5; have E5 := Lib.hid T5; clear T5)
    | ((with_reducible refine wpE_store (o := ⟨none, _, _, _, _, _⟩) rfl 23 (.tmp 5) (.tmp 24) rfl 0 g4 23 (keyC (zeroKey)) (keyC (cs)) (by with_unfolding_all rfl) (by with_unfolding_all rfl) (by with_unfolding_all rfl) (keyC_same zeroKey_length Lc.out) (Try.sizeKey _ Lc.out) (keyC_one _) E5.out ?_); intro w6 T6; simp only [List.set_cons_zero] at T6; have E6 := Lib.hid T6; clear T6)
    | (with_reducible refine wpE_load (o := ⟨some 26, _, _, _, _, _⟩) rfl 23 (.tmp 3) rfl 2 g2 23 (keyC (p)) _ (by with_unfolding_all rfl) (by with_unfolding_all rfl) Try.underlying23 rfl (Try.sizeKey _ Lp.out) E6.out ?_))
  refine (C27.out _).mono ?_
  rintro e w7 ⟨rfl, b7⟩
  have E7 := Lib.hid (E6.out.call b7)
  clear b7 E6
  go_wp2_with (first
    | ((with_reducible refine wpE_alloc (o := ⟨some 6, _, _, _, _, _⟩) rfl 51 rfl (natsC (zero16)) Try.zero16 E7.out ?_); intro g5 w8 T8; have E8 := Lib.hid T8; clear T8)
    | ((with_reducible refine wpE_store (o := ⟨none, _, _, _, _, _⟩) rfl 51 (.tmp 6) (.tmp 28) rfl 0 g5 51 (natsC (zero16)) (natsC (digR 16 u)) (by with_unfolding_all rfl) (by with_unfolding_all rfl) (by with_unfolding_all rfl) (natsC_same zero16_length (digR_length 16 _)) (sizeN Try.sz16 _ (digR_length 16 _)) (natsC_one _) E8.out ?_); intro w9 T9; simp only [List.set_cons_zero] at T9; have E9 := Lib.hid T9; clear T9))
  refine (C30.out _).mono ?_
  rintro e w10 ⟨rfl, b10⟩
  have E10 := Lib.hid (E9.out.call b10)
  clear b10 E9
  go_wp2_with (first
    | ((with_reducible refine wpE_alloc (o := ⟨some 8, _, _, _, _, _⟩) rfl 51 rfl (natsC (zero16)) Try.zero16 E10.out ?_); intro g6 w11 T11; have E11 := Lib.hid T11; clear T11)
    | ((with_reducible refine wpE_store (o := ⟨none, _, _, _, _, _⟩) rfl 51 (.tmp 8) (.tmp 30) rfl 0 g6 51 (natsC (zero16)) (natsC (digR 16 v30)) (by with_unfolding_all rfl) (by with_unfolding_all rfl) (by with_unfolding_all rfl) (natsC_same zero16_length (digR_length 16 _)) (sizeN Try.sz16 _ (digR_length 16 _)) (natsC_one _) E11.out ?_); intro w12 T12; simp only [List.set_cons_zero] at T12; have E12 := Lib.hid T12; clear T12))
  refine (C31.out _).mono ?_
  rintro e w13 ⟨rfl, b13⟩
  have E13 := Lib.hid (E12.out.call b13)
  clear b13 E12
  go_wp2_with (first
    | ((with_reducible refine wpE_alloc (o := ⟨some 9, _, _, _, _, _⟩) rfl 51 rfl (natsC (zero16)) Try.zero16 E13.out ?_); intro g7 w14 T14; have E14 := Lib.hid T14; clear T14)
    | ((with_reducible refine wpE_store (o := ⟨none, _, _, _, _, _⟩) rfl 51 (.tmp 9) (.tmp 31) rfl 0 g7 51 (natsC (zero16)) (natsC (digR 16 v31)) (by with_unfolding_all rfl) (by with_unfolding_all rfl) (by with_unfolding_all rfl) (natsC_same zero16_length (digR_length 16 _)) (sizeN Try.sz16 _ (digR_length 16 _)) (natsC_one _) E14.out ?_); intro w15 T15; simp only [List.set_cons_zero] at T15; have E15 := Lib.hid T15; clear T15)
    | (with_reducible refine wpE_load (o := ⟨some 32, _, _, _, _, _⟩) rfl 51 (.tmp 6) rfl 2 g5 51 (natsC (digR 16 u)) _ (by with_unfolding_all rfl) (by with_unfolding_all rfl) Try.underlying51 rfl (sizeN Try.sz16 _ (digR_length 16 _)) E15.out ?_)
    | ((with_reducible refine wpE_alloc (o := ⟨some 10, _, _, _, _, _⟩) rfl 51 rfl (natsC (zero16)) Try.zero16 E15.out ?_); intro g8 w16 T16; have E16 := Lib.hid T16; clear T16)
    | ((with_reducible refine wpE_store (o := ⟨none, _, _, _, _, _⟩) rfl 51 (.tmp 10) (.tmp 32) rfl 0 g8 51 (natsC (zero16)) (natsC (digR 16 u)) (by with_unfolding_all rfl) (by with_unfolding_all rfl) (by with_unfolding_all rfl) (natsC_same zero16_length (digR_length 16 _)) (sizeN Try.sz16 _ (digR_length 16 _)) (natsC_one _) E16.out ?_); intro w17 T17; simp only [List.set_cons_zero] at T17; have E17 := Lib.hid T17; clear T17))
  refine (C30.out _).mono ?_
  rintro e w18 ⟨rfl, b18⟩
  have E18 := Lib.hid (E17.out.call b18)
  clear b18 E17
  go_wp2_with (first
    | ((with_reducible refine wpE_alloc (o := ⟨some 11, _, _, _, _, _⟩) rfl 51 rfl (natsC (zero16)) Try.zero16 E18.out ?_); intro g9 w19 T19; have E19 := Lib.hid T19; clear T19)
    | ((with_reducible refine wpE_store (o := ⟨none, _, _, _, _, _⟩) rfl 51 (.tmp 11) (.tmp 33) rfl 0 g9 51 (natsC (zero16)) (natsC (digR 16 v30)) (by with_unfolding_all rfl) (by with_unfolding_all rfl) (by with_unfolding_all rfl) (natsC_same zero16_length (digR_length 16 _)) (sizeN Try.sz16 _ (digR_length 16 _)) (natsC_one _) E19.out ?_); intro w20 T20; simp only [List.set_cons_zero] at T20; have E20 := Lib.hid T20; clear T20))
  have EA := E20.out
  rw [H0.out.1, H0.out.2] at EA
  have EB : Hid (Env w [(g9, 51, natsC (digR 16 (runN cs u 0).d)), (g8, 51, natsC (digR 16 (runN cs u 0).c)), (g7, 51, natsC (digR 16 (runN cs u 0).b)), (g6, 51, natsC (digR 16 (runN cs u 0).a)), (g5, 51, (natsC (digR 16 u))), (g4, 23, (keyC (cs))), (g3, 23, (keyC (zeroKey))), (g2, 23, (keyC (p))), (g1, 23, (keyC (s)))] _) := Lib.hid EA
  clear EA E20 H0
  go_wp2_with fail
  go_loopw [12, 13] (fun last i wr => ∃ k : Nat, k ≤ 255 ∧ i = .int .i64 (254 - (k : Int)) ∧ last = .int .i64 (bitI (lastN cs k)) ∧ Env w [(g9, 51, natsC (digR 16 (runN cs u k).d)), (g8, 51, natsC (digR 16 (runN cs u k).c)), (g7, 51, natsC (digR 16 (runN cs u k).b)), (g6, 51, natsC (digR 16 (runN cs u k).a)), (g5, 51, (natsC (digR 16 u))), (g4, 23, (keyC (cs))), (g3, 23, (keyC (zeroKey))), (g2, 23, (keyC (p))), (g1, 23, (keyC (s)))] wr) (fun _ i _ => (intOf i + 1).toNat)
  case atStart => exact ⟨0, by omega, rfl, rfl, EB.out⟩
  case round =>
    clear EB
    obtain ⟨k, hk, rfl, rfl, hE⟩ := hrel
    have hok := runN_ok cs u HB.out k
    by_cases hlt : k < 255
    · have hnext : runN cs u (k + 1) = ((runN cs u k).swap (bitK cs (254 - k) != lastN cs k)).next u := rfl
      have hlast : lastN cs (k + 1) = bitK cs (254 - k) := rfl
      obtain ⟨m, hm⟩ : ∃ m, m = 254 - k := ⟨_, rfl⟩
      rw [← hm] at hnext hlast
      have e254 : (254 : Int) - (k : Int) = (m : Int) := by omega
      obtain ⟨q, hq⟩ : ∃ q, q = m / 8 := ⟨_, rfl⟩
      obtain ⟨r, hr⟩ : ∃ r, r = m % 8 := ⟨_, rfl⟩
      obtain ⟨x, hx⟩ : ∃ x, x = cs.getD q 0 := ⟨_, rfl⟩
      have hq32 : q < 32 := by omega
      have hr8 : r < 8 := by omega
      have hm0 : (0 : Int) ≤ (m : Int) := by omega
      have t1 : (m : Int) / 8 = (q : Int) := by omega
      have t2 : (m : Int) % 8 = (r : Int) := by omega
      have g0 : Hid (cs[q]? = some x) := by show _ = _; rw [hx]; simp [Lc.out, hq32]
      have hbk : bitK cs m = (x.toNat / 2 ^ r % 2 == 1) := by unfold bitK; rw [← hq, ← hr, ← hx]
      have hb := bit_wrap x r
      rw [bitI_of, ← hbk] at hb
      obtain ⟨bt, hbt⟩ : ∃ b, b = bitK cs m := ⟨_, rfl⟩
      rw [← hbt] at hnext hlast hb
      obtain ⟨lt, hltn⟩ : ∃ b, b = lastN cs k := ⟨_, rfl⟩
      rw [← hltn] at hnext
      rw [← hltn]
      generalize runN cs u k = rr at hE hok hnext
      obtain ⟨ra, rb, rc, rd⟩ := rr
      have bra : ra < pF := hok.1
      have brb : rb < pF := hok.2.1
      have brc : rc < pF := hok.2.2.1
      have brd : rd < pF := hok.2.2.2
      have E0 := Lib.hid (show Env w [(g9, 51, natsC (digR 16 rd)), (g8, 51, natsC (digR 16 rc)), (g7, 51, natsC (digR 16 rb)), (g6, 51, natsC (digR 16 ra)), (g5, 51, (natsC (digR 16 u))), (g4, 23, (keyC (cs))), (g3, 23, (keyC (zeroKey))), (g2, 23, (keyC (p))), (g1, 23, (keyC (s)))] _ from hE)
      have cx := keyC_at (E0.out.row 5 rfl) q g0.out
      have HLm : Hid (m = 254 - k) := hm
      have HN := Lib.hid hnext
      have HL := Lib.hid hlast
      clear hE hok hm hq hr hx hbk hbt hltn hnext hlast
      by_cases hbl : bt = lt
      · obtain ⟨v59, hv59⟩ : ∃ v, v = (ra + rb) % pF := ⟨_, rfl⟩
        have bv59 : v59 < pF := by rw [hv59]; exact modF_lt _
        have C59 : Hid (∀ w, Calls Try.prog 29 #[.agg (natsC (digR 16 ra)), .agg (natsC (digR 16 rb))] w (RetV w (.agg (natsC (digR 16 v59))))) := by rw [hv59]; exact fun w => refAdd_any ra rb bra brb w
        obtain ⟨v62, hv62⟩ : ∃ v, v = subF ra rb := ⟨_, rfl⟩
        have bv62 : v62 < pF := by rw [hv62]; exact subF_lt _ _
        have C62 : Hid (∀ w, Calls Try.prog 30 #[.agg (natsC (digR 16 ra)), .agg (natsC (digR 16 rb))] w (RetV w (.agg (natsC (digR 16 v62))))) := by rw [hv62]; exact fun w => refSub_any ra rb bra brb w
        obtain ⟨v65, hv65⟩ : ∃ v, v = v59 * v59 % pF := ⟨_, rfl⟩
        have bv65 : v65 < pF := by rw [hv65]; exact modF_lt _
        have C65 : Hid (∀ w, Calls Try.prog 31 #[.agg (natsC (digR 16 v59)), .agg (natsC (digR 16 v59))] w (RetV w (.agg (natsC (digR 16 v65))))) := by rw [hv65]; exact fun w => refMul_any v59 v59 bv59 bv59 w
        obtain ⟨v68, hv68⟩ : ∃ v, v = v62 * v62 % pF := ⟨_, rfl⟩
        have bv68 : v68 < pF := by rw [hv68]; exact modF_lt _
        have C68 : Hid (∀ w, Calls Try.prog 31 #[.agg (natsC (digR 16 v62)), .agg (natsC (digR 16 v62))] w (RetV w (.agg (natsC (digR 16 v68))))) := by rw [hv68]; exact fun w => refMul_any v62 v62 bv62 bv62 w
        obtain ⟨v71, hv71⟩ : ∃ v, v = subF v65 v68 := ⟨_, rfl⟩
        have bv71 : v71 < pF := by rw [hv71]; exact subF_lt _ _
        have C71 : Hid (∀ w, Calls Try.prog 30 #[.agg (natsC (digR 16 v65)), .agg (natsC (digR 16 v68))] w (RetV w (.agg (natsC (digR 16 v71))))) := by rw [hv71]; exact fun w => refSub_any v65 v68 bv65 bv68 w
        obtain ⟨v74, hv74⟩ : ∃ v, v = subF rc rd := ⟨_, rfl⟩
        have bv74 : v74 < pF := by rw [hv74]; exact subF_lt _ _
        have C74 : Hid (∀ w, Calls Try.prog 30 #[.agg (natsC (digR 16 rc)), .agg (natsC (digR 16 rd))] w (RetV w (.agg (natsC (digR 16 v74))))) := by rw [hv74]; exact fun w => refSub_any rc rd brc brd w
        obtain ⟨v76, hv76⟩ : ∃ v, v = v74 * v59 % pF := ⟨_, rfl⟩
        have bv76 : v76 < pF := by rw [hv76]; exact modF_lt _
        have C76 : Hid (∀ w, Calls Try.prog 31 #[.agg (natsC (digR 16 v74)), .agg (natsC (digR 16 v59))] w (RetV w (.agg (natsC (digR 16 v76))))) := by rw [hv76]; exact fun w => refMul_any v74 v59 bv74 bv59 w
        obtain ⟨v79, hv79⟩ : ∃ v, v = (rc + rd) % pF := ⟨_, rfl⟩
        have bv79 : v79 < pF := by rw [hv79]; exact modF_lt _
        have C79 : Hid (∀ w, Calls Try.prog 29 #[.agg (natsC (digR 16 rc)), .agg (natsC (digR 16 rd))] w (RetV w (.agg (natsC (digR 16 v79))))) := by rw [hv79]; exact fun w => refAdd_any rc rd brc brd w
        obtain ⟨v81, hv81⟩ : ∃ v, v = v79 * v62 % pF := ⟨_, rfl⟩
        have bv81 : v81 < pF := by rw [hv81]; exact modF_lt _
        have C81 : Hid (∀ w, Calls Try.prog 31 #[.agg (natsC (digR 16 v79)), .agg (natsC (digR 16 v62))] w (RetV w (.agg (natsC (digR 16 v81))))) := by rw [hv81]; exact fun w => refMul_any v79 v62 bv79 bv62 w
        obtain ⟨v84, hv84⟩ : ∃ v, v = (v76 + v81) % pF := ⟨_, rfl⟩
        have bv84 : v84 < pF := by rw [hv84]; exact modF_lt _
        have C84 : Hid (∀ w, Calls Try.prog 29 #[.agg (natsC (digR 16 v76)), .agg (natsC (digR 16 v81))] w (RetV w (.agg (natsC (digR 16 v84))))) := by rw [hv84]; exact fun w => refAdd_any v76 v81 bv76 bv81 w
        obtain ⟨v88, hv88⟩ : ∃ v, v = v84 * v84 % pF := ⟨_, rfl⟩
        have bv88 : v88 < pF := by rw [hv88]; exact modF_lt _
        have C88 : Hid (∀ w, Calls Try.prog 31 #[.agg (natsC (digR 16 v84)), .agg (natsC (digR 16 v84))] w (RetV w (.agg (natsC (digR 16 v88))))) := by rw [hv88]; exact fun w => refMul_any v84 v84 bv84 bv84 w
        obtain ⟨v92, hv92⟩ : ∃ v, v = subF v76 v81 := ⟨_, rfl⟩
        have bv92 : v92 < pF := by rw [hv92]; exact subF_lt _ _
        have C92 : Hid (∀ w, Calls Try.prog 30 #[.agg (natsC (digR 16 v76)), .agg (natsC (digR 16 v81))] w (RetV w (.agg (natsC (digR 16 v92))))) := by rw [hv92]; exact fun w => refSub_any v76 v81 bv76 bv81 w
        obtain ⟨v96, hv96⟩ : ∃ v, v = v92 * v92 % pF := ⟨_, rfl⟩
        have bv96 : v96 < pF := by rw [hv96]; exact modF_lt _
        have C96 : Hid (∀ w, Calls Try.prog 31 #[.agg (natsC (digR 16 v92)), .agg (natsC (digR 16 v92))] w (RetV w (.agg (natsC (digR 16 v96))))) := by rw [hv96]; exact fun w => refMul_any v92 v92 bv92 bv92 w
        obtain ⟨v97, hv97⟩ : ∃ v, v = u * v96 % pF := ⟨_, rfl⟩
        have bv97 : v97 < pF := by rw [hv97]; exact modF_lt _
        have C97 : Hid (∀ w, Calls Try.prog 31 #[.agg (natsC (digR 16 u)), .agg (natsC (digR 16 v96))] w (RetV w (.agg (natsC (digR 16 v97))))) := by rw [hv97]; exact fun w => refMul_any u v96 bu bv96 w
        obtain ⟨v100, hv100⟩ : ∃ v, v = v65 * v68 % pF := ⟨_, rfl⟩
        have bv100 : v100 < pF := by rw [hv100]; exact modF_lt _
        have C100 : Hid (∀ w, Calls Try.prog 31 #[.agg (natsC (digR 16 v65)), .agg (natsC (digR 16 v68))] w (RetV w (.agg (natsC (digR 16 v100))))) := by rw [hv100]; exact fun w => refMul_any v65 v68 bv65 bv68 w
        obtain ⟨v103, hv103⟩ : ∃ v, v = 121665 := ⟨_, rfl⟩
        have bv103 : v103 < pF := by rw [hv103]; exact (by decide)
        have C103 : Hid (∀ w, Calls Try.prog 28 #[.int .u64 121665] w (RetV w (.agg (natsC (digR 16 v103))))) := by rw [hv103]; exact fun w => refSmall_any 121665 (by decide) w
        obtain ⟨v105, hv105⟩ : ∃ v, v = v103 * v71 % pF := ⟨_, rfl⟩
        have bv105 : v105 < pF := by rw [hv105]; exact modF_lt _
        have C105 : Hid (∀ w, Calls Try.prog 31 #[.agg (natsC (digR 16 v103)), .agg (natsC (digR 16 v71))] w (RetV w (.agg (natsC (digR 16 v105))))) := by rw [hv105]; exact fun w => refMul_any v103 v71 bv103 bv71 w
        obtain ⟨v106, hv106⟩ : ∃ v, v = (v65 + v105) % pF := ⟨_, rfl⟩
        have bv106 : v106 < pF := by rw [hv106]; exact modF_lt _
        have C106 : Hid (∀ w, Calls Try.prog 29 #[.agg (natsC (digR 16 v65)), .agg (natsC (digR 16 v105))] w (RetV w (.agg (natsC (digR 16 v106))))) := by rw [hv106]; exact fun w => refAdd_any v65 v105 bv65 bv105 w
        obtain ⟨v107, hv107⟩ : ∃ v, v = v71 * v106 % pF := ⟨_, rfl⟩
        have bv107 : v107 < pF := by rw [hv107]; exact modF_lt _
        have C107 : Hid (∀ w, Calls Try.prog 31 #[.agg (natsC (digR 16 v71)), .agg (natsC (digR 16 v106))] w (RetV w (.agg (natsC (digR 16 v107))))) := by rw [hv107]; exact fun w => refMul_any v71 v106 bv71 bv106 w
        have HS : Hid (natsC (digR 16 v100) = natsC (digR 16 (runN cs u (k + 1)).a) ∧ natsC (digR 16 v107) = natsC (digR 16 (runN cs u (k + 1)).b) ∧ natsC (digR 16 v88) = natsC (digR 16 (runN cs u (k + 1)).c) ∧ natsC (digR 16 v97) = natsC (digR 16 (runN cs u (k + 1)).d)) := by
          show _ ∧ _ ∧ _ ∧ _
          rw [HN.out]
          simp only [RN.swap, RN.next, pick_eq hbl, next2, nextz2, next3, nextz3, eN, dN, cN, hv59, hv62, hv65, hv68, hv71, hv74, hv76, hv79, hv81, hv84, hv88, hv92, hv96, hv97, hv100, hv103, hv105, hv106, hv107, and_self]
        have hne1 : (bitI bt == bitI lt) = true := by rw [hbl]; exact beq_self_eq_true _
        have hne2 : bitI lt = bitI bt := by rw [hbl]
        clear hne2
        have hbl' := Lib.hid hbl
        clear hv59 bv59 hv62 bv62 hv65 bv65 hv68 bv68 hv71 bv71 hv74 bv74 hv76 bv76 hv79 bv79 hv81 bv81 hv84 bv84 hv88 bv88 hv92 bv92 hv96 bv96 hv97 bv97 hv100 bv100 hv103 bv103 hv105 bv105 hv106 bv106 hv107 bv107 bra brb brc brd hbl
        go_wp2_with (first
          | (with_reducible refine wpE_load (o := ⟨some 57, _, _, _, _, _⟩) rfl 51 (.tmp 8) rfl 3 g6 51 (natsC (digR 16 ra)) _ (by with_unfolding_all rfl) (by with_unfolding_all rfl) Try.underlying51 rfl (sizeN Try.sz16 _ (digR_length 16 _)) E0.out ?_)
          | (with_reducible refine wpE_load (o := ⟨some 58, _, _, _, _, _⟩) rfl 51 (.tmp 9) rfl 2 g7 51 (natsC (digR 16 rb)) _ (by with_unfolding_all rfl) (by with_unfolding_all rfl) Try.underlying51 rfl (sizeN Try.sz16 _ (digR_length 16 _)) E0.out ?_))
        refine (C59.out _).mono ?_
        rintro e w61 ⟨rfl, b61⟩
        have E1 := Lib.hid (E0.out.call b61)
        clear b61 E0
        go_wp2_with (first
          | ((with_reducible refine wpE_alloc (o := ⟨some 16, _, _, _, _, _⟩) rfl 51 rfl (natsC (zero16)) Try.zero16 E1.out ?_); intro g31 w62 T2; have E2 := Lib.hid T2; clear T2)
          | ((with_reducible refine wpE_store (o := ⟨none, _, _, _, _, _⟩) rfl 51 (.tmp 16) (.tmp 59) rfl 0 g31 51 (natsC (zero16)) (natsC (digR 16 v59)) (by with_unfolding_all rfl) (by with_unfolding_all rfl) (by with_unfolding_all rfl) (natsC_same zero16_length (digR_length 16 _)) (sizeN Try.sz16 _ (digR_length 16 _)) (natsC_one _) E2.out ?_); intro w63 T3; simp only [List.set_cons_zero] at T3; have E3 := Lib.hid T3; clear T3)
          | (with_reducible refine wpE_load (o := ⟨some 60, _, _, _, _, _⟩) rfl 51 (.tmp 8) rfl 4 g6 51 (natsC (digR 16 ra)) _ (by with_unfolding_all rfl) (by with_unfolding_all rfl) Try.underlying51 rfl (sizeN Try.sz16 _ (digR_length 16 _)) E3.out ?_)
          | (with_reducible refine wpE_load (o := ⟨some 61, _, _, _, _, _⟩) rfl 51 (.tmp 9) rfl 3 g7 51 (natsC (digR 16 rb)) _ (by with_unfolding_all rfl) (by with_unfolding_all rfl) Try.underlying51 rfl (sizeN Try.sz16 _ (digR_length 16 _)) E3.out ?_))
        refine (C62.out _).mono ?_
        rintro e w64 ⟨rfl, b64⟩
        have E4 := Lib.hid (E3.out.call b64)
        clear b64 E3
        go_wp2_with (first
          | ((with_reducible refine wpE_alloc (o := ⟨some 17, _, _, _, _, _⟩) rfl 51 rfl (natsC (zero16)) Try.zero16 E4.out ?_); intro g32 w65 T5; have E5 := Lib.hid T5; clear T5)
          | ((with_reducible refine wpE_store (o := ⟨none, _, _, _, _, _⟩) rfl 51 (.tmp 17) (.tmp 62) rfl 0 g32 51 (natsC (zero16)) (natsC (digR 16 v62)) (by with_unfolding_all rfl) (by with_unfolding_all rfl) (by with_unfolding_all rfl) (natsC_same zero16_length (digR_length 16 _)) (sizeN Try.sz16 _ (digR_length 16 _)) (natsC_one _) E5.out ?_); intro w66 T6; simp only [List.set_cons_zero] at T6; have E6 := Lib.hid T6; clear T6)
          | (with_reducible refine wpE_load (o := ⟨some 63, _, _, _, _, _⟩) rfl 51 (.tmp 16) rfl 1 g31 51 (natsC (digR 16 v59)) _ (by with_unfolding_all rfl) (by with_unfolding_all rfl) Try.underlying51 rfl (sizeN Try.sz16 _ (digR_length 16 _)) E6.out ?_)
          | (with_reducible refine wpE_load (o := ⟨some 64, _, _, _, _, _⟩) rfl 51 (.tmp 16) rfl 1 g31 51 (natsC (digR 16 v59)) _ (by with_unfolding_all rfl) (by with_unfolding_all rfl) Try.underlying51 rfl (sizeN Try.sz16 _ (digR_length 16 _)) E6.out ?_))
        refine (C65.out _).mono ?_
        rintro e w67 ⟨rfl, b67⟩
        have E7 := Lib.hid (E6.out.call b67)
        clear b67 E6
        go_wp2_with (first
          | ((with_reducible refine wpE_alloc (o := ⟨some 18, _, _, _, _, _⟩) rfl 51 rfl (natsC (zero16)) Try.zero16 E7.out ?_); intro g33 w68 T8; have E8 := Lib.hid T8; clear T8)
          | ((with_reducible refine wpE_store (o := ⟨none, _, _, _, _, _⟩) rfl 51 (.tmp 18) (.tmp 65) rfl 0 g33 51 (natsC (zero16)) (natsC (digR 16 v65)) (by with_unfolding_all rfl) (by with_unfolding_all rfl) (by with_unfolding_all rfl) (natsC_same zero16_length (digR_length 16 _)) (sizeN Try.sz16 _ (digR_length 16 _)) (natsC_one _) E8.out ?_); intro w69 T9; simp only [List.set_cons_zero] at T9; have E9 := Lib.hid T9; clear T9)
          | (with_reducible refine wpE_load (o := ⟨some 66, _, _, _, _, _⟩) rfl 51 (.tmp 17) rfl 1 g32 51 (natsC (digR 16 v62)) _ (by with_unfolding_all rfl) (by with_unfolding_all rfl) Try.underlying51 rfl (sizeN Try.sz16 _ (digR_length 16 _)) E9.out ?_)
          | (with_reducible refine wpE_load (o := ⟨some 67, _, _, _, _, _⟩) rfl 51 (.tmp 17) rfl 1 g32 51 (natsC (digR 16 v62)) _ (by with_unfolding_all rfl) (by with_unfolding_all rfl) Try.underlying51 rfl (sizeN Try.sz16 _ (digR_length 16 _)) E9.out ?_))
        refine (C68.out _).mono ?_
        rintro e w70 ⟨rfl, b70⟩
        have E10 := Lib.hid (E9.out.call b70)
        clear b70 E9
        go_wp2_with (first
          | ((with_reducible refine wpE_alloc (o := ⟨some 19, _, _, _, _, _⟩) rfl 51 rfl (natsC (zero16)) Try.zero16 E10.out ?_); intro g34 w71 T11; have E11 := Lib.hid T11; clear T11)
          | ((with_reducible refine wpE_store (o := ⟨none, _, _, _, _, _⟩) rfl 51 (.tmp 19) (.tmp 68) rfl 0 g34 51 (natsC (zero16)) (natsC (digR 16 v68)) (by with_unfolding_all rfl) (by with_unfolding_all rfl) (by with_unfolding_all rfl) (natsC_same zero16_length (digR_length 16 _)) (sizeN Try.sz16 _ (digR_length 16 _)) (natsC_one _) E11.out ?_); intro w72 T12; simp only [List.set_cons_zero] at T12; have E12 := Lib.hid T12; clear T12)
          | (with_reducible refine wpE_load (o := ⟨some 69, _, _, _, _, _⟩) rfl 51 (.tmp 18) rfl 1 g33 51 (natsC (digR 16 v65)) _ (by with_unfolding_all rfl) (by with_unfolding_all rfl) Try.underlying51 rfl (sizeN Try.sz16 _ (digR_length 16 _)) E12.out ?_)
          | (with_reducible refine wpE_load (o := ⟨some 70, _, _, _, _, _⟩) rfl 51 (.tmp 19) rfl 0 g34 51 (natsC (digR 16 v68)) _ (by with_unfolding_all rfl) (by with_unfolding_all rfl) Try.underlying51 rfl (sizeN Try.sz16 _ (digR_length 16 _)) E12.out ?_))
        refine (C71.out _).mono ?_
        rintro e w73 ⟨rfl, b73⟩
        have E13 := Lib.hid (E12.out.call b73)
        clear b73 E12
        go_wp2_with (first
          | ((with_reducible refine wpE_alloc (o := ⟨some 20, _, _, _, _, _⟩) rfl 51 rfl (natsC (zero16)) Try.zero16 E13.out ?_); intro g35 w74 T14; have E14 := Lib.hid T14; clear T14)
          | ((with_reducible refine wpE_store (o := ⟨none, _, _, _, _, _⟩) rfl 51 (.tmp 20) (.tmp 71) rfl 0 g35 51 (natsC (zero16)) (natsC (digR 16 v71)) (by with_unfolding_all rfl) (by with_unfolding_all rfl) (by with_unfolding_all rfl) (natsC_same zero16_length (digR_length 16 _)) (sizeN Try.sz16 _ (digR_length 16 _)) (natsC_one _) E14.out ?_); intro w75 T15; simp only [List.set_cons_zero] at T15; have E15 := Lib.hid T15; clear T15))
        refine region_state (N := 117) E15.out (by kernel_rfl) [(0, .agg (natsC (digR 16 rc))), (1, .agg (natsC (digR 16 rd))), (2, .agg (natsC (digR 16 v74))), (3, .agg (natsC (digR 16 v59))), (4, .agg (natsC (digR 16 v76)))] [⟨5, 6, 51, (natsC (zero16)), (natsC (digR 16 v76))⟩] [72, 73, 74, 75, 76, 21] (by kernel_rfl) (by kernel_rfl) (by rfl) ⟨?_, ?_, ?_, ?_, ?_, trivial⟩ ⟨?_, trivial⟩ ?_
        · refine valE_run 0 _ (fun o ho ac wc h1 h2 hE => ?_)
          obtain rfl := Option.some.inj ho
          have e10 : ac.tmps.getD 10 undef = .pointer (some ⟨g8, 0, none⟩) := h2 10 (by kernel_rfl)
          exact run_load_row _ (.tmp 10) rfl g8 e10 51 (natsC (digR 16 rc)) (0, 0) _ (hE.row 6 rfl) Try.underlying51 rfl (sizeN Try.sz16 _ (digR_length 16 _))
        · refine valE_run 1 _ (fun o ho ac wc h1 h2 hE => ?_)
          obtain rfl := Option.some.inj ho
          have e11 : ac.tmps.getD 11 undef = .pointer (some ⟨g9, 0, none⟩) := h2 11 (by kernel_rfl)
          exact run_load_row _ (.tmp 11) rfl g9 e11 51 (natsC (digR 16 rd)) (0, 0) _ (hE.row 5 rfl) Try.underlying51 rfl (sizeN Try.sz16 _ (digR_length 16 _))
        · refine valE_call 2 _ 30 #[.agg (natsC (digR 16 rc)), .agg (natsC (digR 16 rd))] (fun w => C74.out w) (fun o ho ac wc h1 h2 => ?_)
          obtain rfl := Option.some.inj ho
          have e72 : ac.tmps.getD 72 undef = .agg (natsC (digR 16 rc)) := h1 0 _ rfl (by kernel_rfl) 72 rfl
          have e73 : ac.tmps.getD 73 undef = .agg (natsC (digR 16 rd)) := h1 1 _ rfl (by kernel_rfl) 73 rfl
          exact run_call_func 30 _ _ rfl _ (by simp [Act.eval, e72, e73]) (by go_simp)
        · refine valE_run 3 _ (fun o ho ac wc h1 h2 hE => ?_)
          obtain rfl := Option.some.inj ho
          have e16 : ac.tmps.getD 16 undef = .pointer (some ⟨g31, 0, none⟩) := h2 16 (by kernel_rfl)
          exact run_load_row _ (.tmp 16) rfl g31 e16 51 (natsC (digR 16 v59)) (0, 0) _ (hE.row 4 rfl) Try.underlying51 rfl (sizeN Try.sz16 _ (digR_length 16 _))
        · refine valE_call 4 _ 31 #[.agg (natsC (digR 16 v74)), .agg (natsC (digR 16 v59))] (fun w => C76.out w) (fun o ho ac wc h1 h2 => ?_)
          obtain rfl := Option.some.inj ho
          have e74 : ac.tmps.getD 74 undef = .agg (natsC (digR 16 v74)) := h1 2 _ rfl (by kernel_rfl) 74 rfl
          have e75 : ac.tmps.getD 75 undef = .agg (natsC (digR 16 v59)) := h1 3 _ rfl (by kernel_rfl) 75 rfl
          exact run_call_func 31 _ _ rfl _ (by simp [Act.eval, e74, e75]) (by go_simp)
        · exact ⟨⟨_, rfl, rfl, Try.zero16⟩, _, 21, 76, 4, rfl, rfl, by kernel_rfl, by kernel_rfl, natsC_same zero16_length (digR_length 16 _), (sizeN Try.sz16 _ (digR_length 16 _)), natsC_one _, by kernel_rfl, rfl⟩
        intro G w76 T16
        obtain ⟨g36, hg36⟩ : ∃ g, g = G 5 := ⟨_, rfl⟩
        simp only [List.map_cons, List.map_nil, List.cons_append, List.nil_append, ← hg36] at T16
        simp only [List.map_cons, List.map_nil, List.cons_append, List.nil_append, List.zip_cons_cons, List.zip_nil_right, putAll, ptrE, Act.put, List.setIfInBounds_toArray, List.set_cons_zero, List.set_cons_succ, ← hg36]
        have E16 := Lib.hid T16
        clear T16 E15 hg36 G
        go_wp2_with fail
        refine region_state (N := 117) E16.out (by kernel_rfl) [(0, .agg (natsC (digR 16 rc))), (1, .agg (natsC (digR 16 rd))), (2, .agg (natsC (digR 16 v79))), (3, .agg (natsC (digR 16 v62))), (4, .agg (natsC (digR 16 v81)))] [⟨5, 6, 51, (natsC (zero16)), (natsC (digR 16 v81))⟩] [77, 78, 79, 80, 81, 22] (by kernel_rfl) (by kernel_rfl) (by rfl) ⟨?_, ?_, ?_, ?_, ?_, trivial⟩ ⟨?_, trivial⟩ ?_
        · refine valE_run 0 _ (fun o ho ac wc h1 h2 hE => ?_)
          obtain rfl := Option.some.inj ho
          have e10 : ac.tmps.getD 10 undef = .pointer (some ⟨g8, 0, none⟩) := h2 10 (by kernel_rfl)
          exact run_load_row _ (.tmp 10) rfl g8 e10 51 (natsC (digR 16 rc)) (0, 0) _ (hE.row 7 rfl) Try.underlying51 rfl (sizeN Try.sz16 _ (digR_length 16 _))
        · refine valE_run 1 _ (fun o ho ac wc h1 h2 hE => ?_)
          obtain rfl := Option.some.inj ho
          have e11 : ac.tmps.getD 11 undef = .pointer (some ⟨g9, 0, none⟩) := h2 11 (by kernel_rfl)
          exact run_load_row _ (.tmp 11) rfl g9 e11 51 (natsC (digR 16 rd)) (0, 0) _ (hE.row 6 rfl) Try.underlying51 rfl (sizeN Try.sz16 _ (digR_length 16 _))
        · refine valE_call 2 _ 29 #[.agg (natsC (digR 16 rc)), .agg (natsC (digR 16 rd))] (fun w => C79.out w) (fun o ho ac wc h1 h2 => ?_)
          obtain rfl := Option.some.inj ho
          have e77 : ac.tmps.getD 77 undef = .agg (natsC (digR 16 rc)) := h1 0 _ rfl (by kernel_rfl) 77 rfl
          have e78 : ac.tmps.getD 78 undef = .agg (natsC (digR 16 rd)) := h1 1 _ rfl (by kernel_rfl) 78 rfl
          exact run_call_func 29 _ _ rfl _ (by simp [Act.eval, e77, e78]) (by go_simp)
        · refine valE_run 3 _ (fun o ho ac wc h1 h2 hE => ?_)
          obtain rfl := Option.some.inj ho
          have e17 : ac.tmps.getD 17 undef = .pointer (some ⟨g32, 0, none⟩) := h2 17 (by kernel_rfl)
          exact run_load_row _ (.tmp 17) rfl g32 e17 51 (natsC (digR 16 v62)) (0, 0) _ (hE.row 4 rfl) Try.underlying51 rfl (sizeN Try.sz16 _ (digR_length 16 _))
        · refine valE_call 4 _ 31 #[.agg (natsC (digR 16 v79)), .agg (natsC (digR 16 v62))] (fun w => C81.out w) (fun o ho ac wc h1 h2 => ?_)
          obtain rfl := Option.some.inj ho
          have e79 : ac.tmps.getD 79 undef = .agg (natsC (digR 16 v79)) := h1 2 _ rfl (by kernel_rfl) 79 rfl
          have e80 : ac.tmps.getD 80 undef = .agg (natsC (digR 16 v62)) := h1 3 _ rfl (by kernel_rfl) 80 rfl
          exact run_call_func 31 _ _ rfl _ (by simp [Act.eval, e79, e80]) (by go_simp)
        · exact ⟨⟨_, rfl, rfl, Try.zero16⟩, _, 22, 81, 4, rfl, rfl, by kernel_rfl, by kernel_rfl, natsC_same zero16_length (digR_length 16 _), (sizeN Try.sz16 _ (digR_length 16 _)), natsC_one _, by kernel_rfl, rfl⟩
        intro G w77 T17
        obtain ⟨g37, hg37⟩ : ∃ g, g = G 5 := ⟨_, rfl⟩
        simp only [List.map_cons, List.map_nil, List.cons_append, List.nil_append, ← hg37] at T17
        simp only [List.map_cons, List.map_nil, List.cons_append, List.nil_append, List.zip_cons_cons, List.zip_nil_right, putAll, ptrE, Act.put, List.setIfInBounds_toArray, List.set_cons_zero, List.set_cons_succ, ← hg37]
        have E17 := Lib.hid T17
        clear T17 E16 hg37 G
        go_wp2_with fail
        refine region_class_tail 7 _ E17.out.drew (by kernel_rfl) (by kernel_rfl) ?_
        simp only [List.take_succ_cons, List.take_zero, List.drop_succ_cons, List.drop_zero]
        refine qE_load (by rfl) _ (.tmp 21) rfl 1 g36 51 (natsC (digR 16 v76)) _ rfl rfl Try.underlying51 rfl (sizeN Try.sz16 _ (digR_length 16 _)) ?_
        simp only [Act.put, List.setIfInBounds_toArray, List.set_cons_zero, List.set_cons_succ]
        refine qE_load (by rfl) _ (.tmp 22) rfl 0 g37 51 (natsC (digR 16 v81)) _ rfl rfl Try.underlying51 rfl (sizeN Try.sz16 _ (digR_length 16 _)) ?_
        simp only [Act.put, List.setIfInBounds_toArray, List.set_cons_zero, List.set_cons_succ]
        refine q_call (by rfl) 29 _ (fun W => by go_simp) (fun W hW => hW.calls (C84.out W)) ?_
        simp only [Act.put, List.setIfInBounds_toArray, List.set_cons_zero, List.set_cons_succ]
        refine qE_load (by rfl) _ (.tmp 21) rfl 1 g36 51 (natsC (digR 16 v76)) _ rfl rfl Try.underlying51 rfl (sizeN Try.sz16 _ (digR_length 16 _)) ?_
        simp only [Act.put, List.setIfInBounds_toArray, List.set_cons_zero, List.set_cons_succ]
        refine qE_load (by rfl) _ (.tmp 22) rfl 0 g37 51 (natsC (digR 16 v81)) _ rfl rfl Try.underlying51 rfl (sizeN Try.sz16 _ (digR_length 16 _)) ?_
        simp only [Act.put, List.setIfInBounds_toArray, List.set_cons_zero, List.set_cons_succ]
        refine q_call (by rfl) 29 _ (fun W => by go_simp) (fun W hW => hW.calls (C84.out W)) ?_
        simp only [Act.put, List.setIfInBounds_toArray, List.set_cons_zero, List.set_cons_succ]
        refine q_call (by rfl) 31 _ (fun W => by go_simp) (fun W hW => hW.calls (C88.out W)) ?_
        simp only [Act.put, List.setIfInBounds_toArray, List.set_cons_zero, List.set_cons_succ]
        refine wpQuiet_nil ?_
        intro w78 T18
        have E18 := Lib.hid T18
        clear T18 E17
        go_wp2_with (first
          | ((with_reducible refine wpE_store (o := ⟨none, _, _, _, _, _⟩) rfl 51 (.tmp 10) (.tmp 88) rfl 8 g8 51 (natsC (digR 16 rc)) (natsC (digR 16 v88)) (by with_unfolding_all rfl) (by with_unfolding_all rfl) (by with_unfolding_all rfl) (natsC_same (digR_length 16 _) (digR_length 16 _)) (sizeN Try.sz16 _ (digR_length 16 _)) (natsC_one _) E18.out ?_); intro w79 T19; simp only [List.set_cons_zero, List.set_cons_succ] at T19; have E19 := Lib.hid T19; clear T19))
        refine region_class_tail 9 _ E19.out.drew (by kernel_rfl) (by kernel_rfl) ?_
        simp only [List.take_succ_cons, List.take_zero, List.drop_succ_cons, List.drop_zero]
        refine qE_load (by rfl) _ (.tmp 6) rfl 11 g5 51 (natsC (digR 16 u)) _ rfl rfl Try.underlying51 rfl (sizeN Try.sz16 _ (digR_length 16 _)) ?_
        simp only [Act.put, List.setIfInBounds_toArray, List.set_cons_zero, List.set_cons_succ]
        refine qE_load (by rfl) _ (.tmp 21) rfl 1 g36 51 (natsC (digR 16 v76)) _ rfl rfl Try.underlying51 rfl (sizeN Try.sz16 _ (digR_length 16 _)) ?_
        simp only [Act.put, List.setIfInBounds_toArray, List.set_cons_zero, List.set_cons_succ]
        refine qE_load (by rfl) _ (.tmp 22) rfl 0 g37 51 (natsC (digR 16 v81)) _ rfl rfl Try.underlying51 rfl (sizeN Try.sz16 _ (digR_length 16 _)) ?_
        simp only [Act.put, List.setIfInBounds_toArray, List.set_cons_zero, List.set_cons_succ]
        refine q_call (by rfl) 30 _ (fun W => by go_simp) (fun W hW => hW.calls (C92.out W)) ?_
        simp only [Act.put, List.setIfInBounds_toArray, List.set_cons_zero, List.set_cons_succ]
        refine qE_load (by rfl) _ (.tmp 21) rfl 1 g36 51 (natsC (digR 16 v76)) _ rfl rfl Try.underlying51 rfl (sizeN Try.sz16 _ (digR_length 16 _)) ?_
        simp only [Act.put, List.setIfInBounds_toArray, List.set_cons_zero, List.set_cons_succ]
        refine qE_load (by rfl) _ (.tmp 22) rfl 0 g37 51 (natsC (digR 16 v81)) _ rfl rfl Try.underlying51 rfl (sizeN Try.sz16 _ (digR_length 16 _)) ?_
        simp only [Act.put, List.setIfInBounds_toArray, List.set_cons_zero, List.set_cons_succ]
        refine q_call (by rfl) 30 _ (fun W => by go_simp) (fun W hW => hW.calls (C92.out W)) ?_
        simp only [Act.put, List.setIfInBounds_toArray, List.set_cons_zero, List.set_cons_succ]
        refine q_call (by rfl) 31 _ (fun W => by go_simp) (fun W hW => hW.calls (C96.out W)) ?_
        simp only [Act.put, List.setIfInBounds_toArray, List.set_cons_zero, List.set_cons_succ]
        refine q_call (by rfl) 31 _ (fun W => by go_simp) (fun W hW => hW.calls (C97.out W)) ?_
        simp only [Act.put, List.setIfInBounds_toArray, List.set_cons_zero, List.set_cons_succ]
        refine wpQuiet_nil ?_
        intro w80 T20
        have E20 := Lib.hid T20
        clear T20 E19
        go_wp2_with (first
          | ((with_reducible refine wpE_store (o := ⟨none, _, _, _, _, _⟩) rfl 51 (.tmp 11) (.tmp 97) rfl 7 g9 51 (natsC (digR 16 rd)) (natsC (digR 16 v97)) (by with_unfolding_all rfl) (by with_unfolding_all rfl) (by with_unfolding_all rfl) (natsC_same (digR_length 16 _) (digR_length 16 _)) (sizeN Try.sz16 _ (digR_length 16 _)) (natsC_one _) E20.out ?_); intro w81 T21; simp only [List.set_cons_zero, List.set_cons_succ] at T21; have E21 := Lib.hid T21; clear T21)
          | (with_reducible refine wpE_load (o := ⟨some 98, _, _, _, _, _⟩) rfl 51 (.tmp 18) rfl 4 g33 51 (natsC (digR 16 v65)) _ (by with_unfolding_all rfl) (by with_unfolding_all rfl) Try.underlying51 rfl (sizeN Try.sz16 _ (digR_length 16 _)) E21.out ?_)
          | (with_reducible refine wpE_load (o := ⟨some 99, _, _, _, _, _⟩) rfl 51 (.tmp 19) rfl 3 g34 51 (natsC (digR 16 v68)) _ (by with_unfolding_all rfl) (by with_unfolding_all rfl) Try.underlying51 rfl (sizeN Try.sz16 _ (digR_length 16 _)) E21.out ?_))
        refine (C100.out _).mono ?_
        rintro e w82 ⟨rfl, b82⟩
        have E22 := Lib.hid (E21.out.call b82)
        clear b82 E21
        go_wp2_with (first
          | ((with_reducible refine wpE_store (o := ⟨none, _, _, _, _, _⟩) rfl 51 (.tmp 8) (.tmp 100) rfl 10 g6 51 (natsC (digR 16 ra)) (natsC (digR 16 v100)) (by with_unfolding_all rfl) (by with_unfolding_all rfl) (by with_unfolding_all rfl) (natsC_same (digR_length 16 _) (digR_length 16 _)) (sizeN Try.sz16 _ (digR_length 16 _)) (natsC_one _) E22.out ?_); intro w83 T23; simp only [List.set_cons_zero, List.set_cons_succ] at T23; have E23 := Lib.hid T23; clear T23))
        refine region_class_tail 7 _ E23.out.drew (by kernel_rfl) (by kernel_rfl) ?_
        simp only [List.take_succ_cons, List.take_zero, List.drop_succ_cons, List.drop_zero]
        refine qE_load (by rfl) _ (.tmp 20) rfl 2 g35 51 (natsC (digR 16 v71)) _ rfl rfl Try.underlying51 rfl (sizeN Try.sz16 _ (digR_length 16 _)) ?_
        simp only [Act.put, List.setIfInBounds_toArray, List.set_cons_zero, List.set_cons_succ]
        refine qE_load (by rfl) _ (.tmp 18) rfl 4 g33 51 (natsC (digR 16 v65)) _ rfl rfl Try.underlying51 rfl (sizeN Try.sz16 _ (digR_length 16 _)) ?_
        simp only [Act.put, List.setIfInBounds_toArray, List.set_cons_zero, List.set_cons_succ]
        refine q_call (by rfl) 28 _ (fun W => by go_simp) (fun W hW => hW.calls (C103.out W)) ?_
        simp only [Act.put, List.setIfInBounds_toArray, List.set_cons_zero, List.set_cons_succ]
        refine qE_load (by rfl) _ (.tmp 20) rfl 2 g35 51 (natsC (digR 16 v71)) _ rfl rfl Try.underlying51 rfl (sizeN Try.sz16 _ (digR_length 16 _)) ?_
        simp only [Act.put, List.setIfInBounds_toArray, List.set_cons_zero, List.set_cons_succ]
        refine q_call (by rfl) 31 _ (fun W => by go_simp) (fun W hW => hW.calls (C105.out W)) ?_
        simp only [Act.put, List.setIfInBounds_toArray, List.set_cons_zero, List.set_cons_succ]
        refine q_call (by rfl) 29 _ (fun W => by go_simp) (fun W hW => hW.calls (C106.out W)) ?_
        simp only [Act.put, List.setIfInBounds_toArray, List.set_cons_zero, List.set_cons_succ]
        refine q_call (by rfl) 31 _ (fun W => by go_simp) (fun W hW => hW.calls (C107.out W)) ?_
        simp only [Act.put, List.setIfInBounds_toArray, List.set_cons_zero, List.set_cons_succ]
        refine wpQuiet_nil ?_
        intro w84 T24
        have E24 := Lib.hid T24
        clear T24 E23
        go_wp2_with (first
          | ((with_reducible refine wpE_store (o := ⟨none, _, _, _, _, _⟩) rfl 51 (.tmp 9) (.tmp 107) rfl 9 g7 51 (natsC (digR 16 rb)) (natsC (digR 16 v107)) (by with_unfolding_all rfl) (by with_unfolding_all rfl) (by with_unfolding_all rfl) (natsC_same (digR_length 16 _) (digR_length 16 _)) (sizeN Try.sz16 _ (digR_length 16 _)) (natsC_one _) E24.out ?_); intro w85 T25; simp only [List.set_cons_zero, List.set_cons_succ] at T25; have E25 := Lib.hid T25; clear T25))
        go_roundw
        case rel =>
          have EZ := E25.out.tl.tl.tl.tl.tl.tl.tl
          rw [HS.out.1, HS.out.2.1, HS.out.2.2.1, HS.out.2.2.2] at EZ
          exact ⟨k + 1, by omega, by congr 1; have := HLm.out; omega, by rw [HL.out], EZ⟩
        case measure => simp [intOf]; omega
      · obtain ⟨v59, hv59⟩ : ∃ v, v = (rc + rd) % pF := ⟨_, rfl⟩
        have bv59 : v59 < pF := by rw [hv59]; exact modF_lt _
        have C59 : Hid (∀ w, Calls Try.prog 29 #[.agg (natsC (digR 16 rc)), .agg (natsC (digR 16 rd))] w (RetV w (.agg (natsC (digR 16 v59))))) := by rw [hv59]; exact fun w => refAdd_any rc rd brc brd w
        obtain ⟨v62, hv62⟩ : ∃ v, v = subF rc rd := ⟨_, rfl⟩
        have bv62 : v62 < pF := by rw [hv62]; exact subF_lt _ _
        have C62 : Hid (∀ w, Calls Try.prog 30 #[.agg (natsC (digR 16 rc)), .agg (natsC (digR 16 rd))] w (RetV w (.agg (natsC (digR 16 v62))))) := by rw [hv62]; exact fun w => refSub_any rc rd brc brd w
        obtain ⟨v65, hv65⟩ : ∃ v, v = v59 * v59 % pF := ⟨_, rfl⟩
        have bv65 : v65 < pF := by rw [hv65]; exact modF_lt _
        have C65 : Hid (∀ w, Calls Try.prog 31 #[.agg (natsC (digR 16 v59)), .agg (natsC (digR 16 v59))] w (RetV w (.agg (natsC (digR 16 v65))))) := by rw [hv65]; exact fun w => refMul_any v59 v59 bv59 bv59 w
        obtain ⟨v68, hv68⟩ : ∃ v, v = v62 * v62 % pF := ⟨_, rfl⟩
        have bv68 : v68 < pF := by rw [hv68]; exact modF_lt _
        have C68 : Hid (∀ w, Calls Try.prog 31 #[.agg (natsC (digR 16 v62)), .agg (natsC (digR 16 v62))] w (RetV w (.agg (natsC (digR 16 v68))))) := by rw [hv68]; exact fun w => refMul_any v62 v62 bv62 bv62 w
        obtain ⟨v71, hv71⟩ : ∃ v, v = subF v65 v68 := ⟨_, rfl⟩
        have bv71 : v71 < pF := by rw [hv71]; exact subF_lt _ _
        have C71 : Hid (∀ w, Calls Try.prog 30 #[.agg (natsC (digR 16 v65)), .agg (natsC (digR 16 v68))] w (RetV w (.agg (natsC (digR 16 v71))))) := by rw [hv71]; exact fun w => refSub_any v65 v68 bv65 bv68 w
        obtain ⟨v74, hv74⟩ : ∃ v, v = subF ra rb := ⟨_, rfl⟩
        have bv74 : v74 < pF := by rw [hv74]; exact subF_lt _ _
        have C74 : Hid (∀ w, Calls Try.prog 30 #[.agg (natsC (digR 16 ra)), .agg (natsC (digR 16 rb))] w (RetV w (.agg (natsC (digR 16 v74))))) := by rw [hv74]; exact fun w => refSub_any ra rb bra brb w
        obtain ⟨v76, hv76⟩ : ∃ v, v = v74 * v59 % pF := ⟨_, rfl⟩
        have bv76 : v76 < pF := by rw [hv76]; exact modF_lt _
        have C76 : Hid (∀ w, Calls Try.prog 31 #[.agg (natsC (digR 16 v74)), .agg (natsC (digR 16 v59))] w (RetV w (.agg (natsC (digR 16 v76))))) := by rw [hv76]; exact fun w => refMul_any v74 v59 bv74 bv59 w
        obtain ⟨v79, hv79⟩ : ∃ v, v = (ra + rb) % pF := ⟨_, rfl⟩
        have bv79 : v79 < pF := by rw [hv79]; exact modF_lt _
        have C79 : Hid (∀ w, Calls Try.prog 29 #[.agg (natsC (digR 16 ra)), .agg (natsC (digR 16 rb))] w (RetV w (.agg (natsC (digR 16 v79))))) := by rw [hv79]; exact fun w => refAdd_any ra rb bra brb w
        obtain ⟨v81, hv81⟩ : ∃ v, v = v79 * v62 % pF := ⟨_, rfl⟩
        have bv81 : v81 < pF := by rw [hv81]; exact modF_lt _
        have C81 : Hid (∀ w, Calls Try.prog 31 #[.agg (natsC (digR 16 v79)), .agg (natsC (digR 16 v62))] w (RetV w (.agg (natsC (digR 16 v81))))) := by rw [hv81]; exact fun w => refMul_any v79 v62 bv79 bv62 w
        obtain ⟨v84, hv84⟩ : ∃ v, v = (v76 + v81) % pF := ⟨_, rfl⟩
        have bv84 : v84 < pF := by rw [hv84]; exact modF_lt _
        have C84 : Hid (∀ w, Calls Try.prog 29 #[.agg (natsC (digR 16 v76)), .agg (natsC (digR 16 v81))] w (RetV w (.agg (natsC (digR 16 v84))))) := by rw [hv84]; exact fun w => refAdd_any v76 v81 bv76 bv81 w
        obtain ⟨v88, hv88⟩ : ∃ v, v = v84 * v84 % pF := ⟨_, rfl⟩
        have bv88 : v88 < pF := by rw [hv88]; exact modF_lt _
        have C88 : Hid (∀ w, Calls Try.prog 31 #[.agg (natsC (digR 16 v84)), .agg (natsC (digR 16 v84))] w (RetV w (.agg (natsC (digR 16 v88))))) := by rw [hv88]; exact fun w => refMul_any v84 v84 bv84 bv84 w
        obtain ⟨v92, hv92⟩ : ∃ v, v = subF v76 v81 := ⟨_, rfl⟩
        have bv92 : v92 < pF := by rw [hv92]; exact subF_lt _ _
        have C92 : Hid (∀ w, Calls Try.prog 30 #[.agg (natsC (digR 16 v76)), .agg (natsC (digR 16 v81))] w (RetV w (.agg (natsC (digR 16 v92))))) := by rw [hv92]; exact fun w => refSub_any v76 v81 bv76 bv81 w
        obtain ⟨v96, hv96⟩ : ∃ v, v = v92 * v92 % pF := ⟨_, rfl⟩
        have bv96 : v96 < pF := by rw [hv96]; exact modF_lt _
        have C96 : Hid (∀ w, Calls Try.prog 31 #[.agg (natsC (digR 16 v92)), .agg (natsC (digR 16 v92))] w (RetV w (.agg (natsC (digR 16 v96))))) := by rw [hv96]; exact fun w => refMul_any v92 v92 bv92 bv92 w
        obtain ⟨v97, hv97⟩ : ∃ v, v = u * v96 % pF := ⟨_, rfl⟩
        have bv97 : v97 < pF := by rw [hv97]; exact modF_lt _
        have C97 : Hid (∀ w, Calls Try.prog 31 #[.agg (natsC (digR 16 u)), .agg (natsC (digR 16 v96))] w (RetV w (.agg (natsC (digR 16 v97))))) := by rw [hv97]; exact fun w => refMul_any u v96 bu bv96 w
        obtain ⟨v100, hv100⟩ : ∃ v, v = v65 * v68 % pF := ⟨_, rfl⟩
        have bv100 : v100 < pF := by rw [hv100]; exact modF_lt _
        have C100 : Hid (∀ w, Calls Try.prog 31 #[.agg (natsC (digR 16 v65)), .agg (natsC (digR 16 v68))] w (RetV w (.agg (natsC (digR 16 v100))))) := by rw [hv100]; exact fun w => refMul_any v65 v68 bv65 bv68 w
        obtain ⟨v103, hv103⟩ : ∃ v, v = 121665 := ⟨_, rfl⟩
        have bv103 : v103 < pF := by rw [hv103]; exact (by decide)
        have C103 : Hid (∀ w, Calls Try.prog 28 #[.int .u64 121665] w (RetV w (.agg (natsC (digR 16 v103))))) := by rw [hv103]; exact fun w => refSmall_any 121665 (by decide) w
        obtain ⟨v105, hv105⟩ : ∃ v, v = v103 * v71 % pF := ⟨_, rfl⟩
        have bv105 : v105 < pF := by rw [hv105]; exact modF_lt _
        have C105 : Hid (∀ w, Calls Try.prog 31 #[.agg (natsC (digR 16 v103)), .agg (natsC (digR 16 v71))] w (RetV w (.agg (natsC (digR 16 v105))))) := by rw [hv105]; exact fun w => refMul_any v103 v71 bv103 bv71 w
        obtain ⟨v106, hv106⟩ : ∃ v, v = (v65 + v105) % pF := ⟨_, rfl⟩
        have bv106 : v106 < pF := by rw [hv106]; exact modF_lt _
        have C106 : Hid (∀ w, Calls Try.prog 29 #[.agg (natsC (digR 16 v65)), .agg (natsC (digR 16 v105))] w (RetV w (.agg (natsC (digR 16 v106))))) := by rw [hv106]; exact fun w => refAdd_any v65 v105 bv65 bv105 w
        obtain ⟨v107, hv107⟩ : ∃ v, v = v71 * v106 % pF := ⟨_, rfl⟩
        have bv107 : v107 < pF := by rw [hv107]; exact modF_lt _
        have C107 : Hid (∀ w, Calls Try.prog 31 #[.agg (natsC (digR 16 v71)), .agg (natsC (digR 16 v106))] w (RetV w (.agg (natsC (digR 16 v107))))) := by rw [hv107]; exact fun w => refMul_any v71 v106 bv71 bv106 w
        have HS : Hid (natsC (digR 16 v100) = natsC (digR 16 (runN cs u (k + 1)).a) ∧ natsC (digR 16 v107) = natsC (digR 16 (runN cs u (k + 1)).b) ∧ natsC (digR 16 v88) = natsC (digR 16 (runN cs u (k + 1)).c) ∧ natsC (digR 16 v97) = natsC (digR 16 (runN cs u (k + 1)).d)) := by
          show _ ∧ _ ∧ _ ∧ _
          rw [HN.out]
          simp only [RN.swap, RN.next, pick_ne hbl, next2, nextz2, next3, nextz3, eN, dN, cN, hv59, hv62, hv65, hv68, hv71, hv74, hv76, hv79, hv81, hv84, hv88, hv92, hv96, hv97, hv100, hv103, hv105, hv106, hv107, and_self]
        have hne1 : (bitI bt == bitI lt) = false := by cases bt <;> cases lt <;> first | rfl | exact absurd rfl hbl
        have hne2 : ¬ bitI bt = bitI lt := by cases bt <;> cases lt <;> first | exact absurd rfl hbl | decide
        have hbl' := Lib.hid hbl
        clear hv59 bv59 hv62 bv62 hv65 bv65 hv68 bv68 hv71 bv71 hv74 bv74 hv76 bv76 hv79 bv79 hv81 bv81 hv84 bv84 hv88 bv88 hv92 bv92 hv96 bv96 hv97 bv97 hv100 bv100 hv103 bv103 hv105 bv105 hv106 bv106 hv107 bv107 bra brb brc brd hbl
        go_wp2_with (first
          | (with_reducible refine wpE_load (o := ⟨some 50, _, _, _, _, _⟩) rfl 51 (.tmp 8) rfl 3 g6 51 (natsC (digR 16 ra)) _ (by with_unfolding_all rfl) (by with_unfolding_all rfl) Try.underlying51 rfl (sizeN Try.sz16 _ (digR_length 16 _)) E0.out ?_)
          | ((with_reducible refine wpE_alloc (o := ⟨some 15, _, _, _, _, _⟩) rfl 51 rfl (natsC (zero16)) Try.zero16 E0.out ?_); intro g31 w61 T1; have E1 := Lib.hid T1; clear T1)
          | ((with_reducible refine wpE_store (o := ⟨none, _, _, _, _, _⟩) rfl 51 (.tmp 15) (.tmp 50) rfl 0 g31 51 (natsC (zero16)) (natsC (digR 16 ra)) (by with_unfolding_all rfl) (by with_unfolding_all rfl) (by with_unfolding_all rfl) (natsC_same zero16_length (digR_length 16 _)) (sizeN Try.sz16 _ (digR_length 16 _)) (natsC_one _) E1.out ?_); intro w62 T2; simp only [List.set_cons_zero] at T2; have E2 := Lib.hid T2; clear T2)
          | (with_reducible refine wpE_load (o := ⟨some 51, _, _, _, _, _⟩) rfl 51 (.tmp 10) rfl 2 g8 51 (natsC (digR 16 rc)) _ (by with_unfolding_all rfl) (by with_unfolding_all rfl) Try.underlying51 rfl (sizeN Try.sz16 _ (digR_length 16 _)) E2.out ?_)
          | ((with_reducible refine wpE_store (o := ⟨none, _, _, _, _, _⟩) rfl 51 (.tmp 8) (.tmp 51) rfl 4 g6 51 (natsC (digR 16 ra)) (natsC (digR 16 rc)) (by with_unfolding_all rfl) (by with_unfolding_all rfl) (by with_unfolding_all rfl) (natsC_same (digR_length 16 _) (digR_length 16 _)) (sizeN Try.sz16 _ (digR_length 16 _)) (natsC_one _) E2.out ?_); intro w63 T3; simp only [List.set_cons_zero, List.set_cons_succ] at T3; have E3 := Lib.hid T3; clear T3)
          | (with_reducible refine wpE_load (o := ⟨some 52, _, _, _, _, _⟩) rfl 51 (.tmp 15) rfl 0 g31 51 (natsC (digR 16 ra)) _ (by with_unfolding_all rfl) (by with_unfolding_all rfl) Try.underlying51 rfl (sizeN Try.sz16 _ (digR_length 16 _)) E3.out ?_)
          | ((with_reducible refine wpE_store (o := ⟨none, _, _, _, _, _⟩) rfl 51 (.tmp 10) (.tmp 52) rfl 2 g8 51 (natsC (digR 16 rc)) (natsC (digR 16 ra)) (by with_unfolding_all rfl) (by with_unfolding_all rfl) (by with_unfolding_all rfl) (natsC_same (digR_length 16 _) (digR_length 16 _)) (sizeN Try.sz16 _ (digR_length 16 _)) (natsC_one _) E3.out ?_); intro w64 T4; simp only [List.set_cons_zero, List.set_cons_succ] at T4; have E4 := Lib.hid T4; clear T4)
          | (with_reducible refine wpE_load (o := ⟨some 53, _, _, _, _, _⟩) rfl 51 (.tmp 9) rfl 3 g7 51 (natsC (digR 16 rb)) _ (by with_unfolding_all rfl) (by with_unfolding_all rfl) Try.underlying51 rfl (sizeN Try.sz16 _ (digR_length 16 _)) E4.out ?_)
          | ((with_reducible refine wpE_store (o := ⟨none, _, _, _, _, _⟩) rfl 51 (.tmp 15) (.tmp 53) rfl 0 g31 51 (natsC (digR 16 ra)) (natsC (digR 16 rb)) (by with_unfolding_all rfl) (by with_unfolding_all rfl) (by with_unfolding_all rfl) (natsC_same (digR_length 16 _) (digR_length 16 _)) (sizeN Try.sz16 _ (digR_length 16 _)) (natsC_one _) E4.out ?_); intro w65 T5; simp only [List.set_cons_zero] at T5; have E5 := Lib.hid T5; clear T5)
          | (with_reducible refine wpE_load (o := ⟨some 54, _, _, _, _, _⟩) rfl 51 (.tmp 11) rfl 1 g9 51 (natsC (digR 16 rd)) _ (by with_unfolding_all rfl) (by with_unfolding_all rfl) Try.underlying51 rfl (sizeN Try.sz16 _ (digR_length 16 _)) E5.out ?_)
          | ((with_reducible refine wpE_store (o := ⟨none, _, _, _, _, _⟩) rfl 51 (.tmp 9) (.tmp 54) rfl 3 g7 51 (natsC (digR 16 rb)) (natsC (digR 16 rd)) (by with_unfolding_all rfl) (by with_unfolding_all rfl) (by with_unfolding_all rfl) (natsC_same (digR_length 16 _) (digR_length 16 _)) (sizeN Try.sz16 _ (digR_length 16 _)) (natsC_one _) E5.out ?_); intro w66 T6; simp only [List.set_cons_zero, List.set_cons_succ] at T6; have E6 := Lib.hid T6; clear T6)
          | (with_reducible refine wpE_load (o := ⟨some 55, _, _, _, _, _⟩) rfl 51 (.tmp 15) rfl 0 g31 51 (natsC (digR 16 rb)) _ (by with_unfolding_all rfl) (by with_unfolding_all rfl) Try.underlying51 rfl (sizeN Try.sz16 _ (digR_length 16 _)) E6.out ?_)
          | ((with_reducible refine wpE_store (o := ⟨none, _, _, _, _, _⟩) rfl 51 (.tmp 11) (.tmp 55) rfl 1 g9 51 (natsC (digR 16 rd)) (natsC (digR 16 rb)) (by with_unfolding_all rfl) (by with_unfolding_all rfl) (by with_unfolding_all rfl) (natsC_same (digR_length 16 _) (digR_length 16 _)) (sizeN Try.sz16 _ (digR_length 16 _)) (natsC_one _) E6.out ?_); intro w67 T7; simp only [List.set_cons_zero, List.set_cons_succ] at T7; have E7 := Lib.hid T7; clear T7)
          | (with_reducible refine wpE_load (o := ⟨some 57, _, _, _, _, _⟩) rfl 51 (.tmp 8) rfl 4 g6 51 (natsC (digR 16 rc)) _ (by with_unfolding_all rfl) (by with_unfolding_all rfl) Try.underlying51 rfl (sizeN Try.sz16 _ (digR_length 16 _)) E7.out ?_)
          | (with_reducible refine wpE_load (o := ⟨some 58, _, _, _, _, _⟩) rfl 51 (.tmp 9) rfl 3 g7 51 (natsC (digR 16 rd)) _ (by with_unfolding_all rfl) (by with_unfolding_all rfl) Try.underlying51 rfl (sizeN Try.sz16 _ (digR_length 16 _)) E7.out ?_))
        refine (C59.out _).mono ?_
        rintro e w68 ⟨rfl, b68⟩
        have E8 := Lib.hid (E7.out.call b68)
        clear b68 E7
        go_wp2_with (first
          | ((with_reducible refine wpE_alloc (o := ⟨some 16, _, _, _, _, _⟩) rfl 51 rfl (natsC (zero16)) Try.zero16 E8.out ?_); intro g32 w69 T9; have E9 := Lib.hid T9; clear T9)
          | ((with_reducible refine wpE_store (o := ⟨none, _, _, _, _, _⟩) rfl 51 (.tmp 16) (.tmp 59) rfl 0 g32 51 (natsC (zero16)) (natsC (digR 16 v59)) (by with_unfolding_all rfl) (by with_unfolding_all rfl) (by with_unfolding_all rfl) (natsC_same zero16_length (digR_length 16 _)) (sizeN Try.sz16 _ (digR_length 16 _)) (natsC_one _) E9.out ?_); intro w70 T10; simp only [List.set_cons_zero] at T10; have E10 := Lib.hid T10; clear T10)
          | (with_reducible refine wpE_load (o := ⟨some 60, _, _, _, _, _⟩) rfl 51 (.tmp 8) rfl 5 g6 51 (natsC (digR 16 rc)) _ (by with_unfolding_all rfl) (by with_unfolding_all rfl) Try.underlying51 rfl (sizeN Try.sz16 _ (digR_length 16 _)) E10.out ?_)
          | (with_reducible refine wpE_load (o := ⟨some 61, _, _, _, _, _⟩) rfl 51 (.tmp 9) rfl 4 g7 51 (natsC (digR 16 rd)) _ (by with_unfolding_all rfl) (by with_unfolding_all rfl) Try.underlying51 rfl (sizeN Try.sz16 _ (digR_length 16 _)) E10.out ?_))
        refine (C62.out _).mono ?_
        rintro e w71 ⟨rfl, b71⟩
        have E11 := Lib.hid (E10.out.call b71)
        clear b71 E10
        go_wp2_with (first
          | ((with_reducible refine wpE_alloc (o := ⟨some 17, _, _, _, _, _⟩) rfl 51 rfl (natsC (zero16)) Try.zero16 E11.out ?_); intro g33 w72 T12; have E12 := Lib.hid T12; clear T12)
          | ((with_reducible refine wpE_store (o := ⟨none, _, _, _, _, _⟩) rfl 51 (.tmp 17) (.tmp 62) rfl 0 g33 51 (natsC (zero16)) (natsC (digR 16 v62)) (by with_unfolding_all rfl) (by with_unfolding_all rfl) (by with_unfolding_all rfl) (natsC_same zero16_length (digR_length 16 _)) (sizeN Try.sz16 _ (digR_length 16 _)) (natsC_one _) E12.out ?_); intro w73 T13; simp only [List.set_cons_zero] at T13; have E13 := Lib.hid T13; clear T13)
          | (with_reducible refine wpE_load (o := ⟨some 63, _, _, _, _, _⟩) rfl 51 (.tmp 16) rfl 1 g32 51 (natsC (digR 16 v59)) _ (by with_unfolding_all rfl) (by with_unfolding_all rfl) Try.underlying51 rfl (sizeN Try.sz16 _ (digR_length 16 _)) E13.out ?_)
          | (with_reducible refine wpE_load (o := ⟨some 64, _, _, _, _, _⟩) rfl 51 (.tmp 16) rfl 1 g32 51 (natsC (digR 16 v59)) _ (by with_unfolding_all rfl) (by with_unfolding_all rfl) Try.underlying51 rfl (sizeN Try.sz16 _ (digR_length 16 _)) E13.out ?_))
        refine (C65.out _).mono ?_
        rintro e w74 ⟨rfl, b74⟩
        have E14 := Lib.hid (E13.out.call b74)
        clear b74 E13
        go_wp2_with (first
          | ((with_reducible refine wpE_alloc (o := ⟨some 18, _, _, _, _, _⟩) rfl 51 rfl (natsC (zero16)) Try.zero16 E14.out ?_); intro g34 w75 T15; have E15 := Lib.hid T15; clear T15)
          | ((with_reducible refine wpE_store (o := ⟨none, _, _, _, _, _⟩) rfl 51 (.tmp 18) (.tmp 65) rfl 0 g34 51 (natsC (zero16)) (natsC (digR 16 v65)) (by with_unfolding_all rfl) (by with_unfolding_all rfl) (by with_unfolding_all rfl) (natsC_same zero16_length (digR_length 16 _)) (sizeN Try.sz16 _ (digR_length 16 _)) (natsC_one _) E15.out ?_); intro w76 T16; simp only [List.set_cons_zero] at T16; have E16 := Lib.hid T16; clear T16)
          | (with_reducible refine wpE_load (o := ⟨some 66, _, _, _, _, _⟩) rfl 51 (.tmp 17) rfl 1 g33 51 (natsC (digR 16 v62)) _ (by with_unfolding_all rfl) (by with_unfolding_all rfl) Try.underlying51 rfl (sizeN Try.sz16 _ (digR_length 16 _)) E16.out ?_)
          | (with_reducible refine wpE_load (o := ⟨some 67, _, _, _, _, _⟩) rfl 51 (.tmp 17) rfl 1 g33 51 (natsC (digR 16 v62)) _ (by with_unfolding_all rfl) (by with_unfolding_all rfl) Try.underlying51 rfl (sizeN Try.sz16 _ (digR_length 16 _)) E16.out ?_))
        refine (C68.out _).mono ?_
        rintro e w77 ⟨rfl, b77⟩
        have E17 := Lib.hid (E16.out.call b77)
        clear b77 E16
        go_wp2_with (first
          | ((with_reducible refine wpE_alloc (o := ⟨some 19, _, _, _, _, _⟩) rfl 51 rfl (natsC (zero16)) Try.zero16 E17.out ?_); intro g35 w78 T18; have E18 := Lib.hid T18; clear T18)
          | ((with_reducible refine wpE_store (o := ⟨none, _, _, _, _, _⟩) rfl 51 (.tmp 19) (.tmp 68) rfl 0 g35 51 (natsC (zero16)) (natsC (digR 16 v68)) (by with_unfolding_all rfl) (by with_unfolding_all rfl) (by with_unfolding_all rfl) (natsC_same zero16_length (digR_length 16 _)) (sizeN Try.sz16 _ (digR_length 16 _)) (natsC_one _) E18.out ?_); intro w79 T19; simp only [List.set_cons_zero] at T19; have E19 := Lib.hid T19; clear T19)
          | (with_reducible refine wpE_load (o := ⟨some 69, _, _, _, _, _⟩) rfl 51 (.tmp 18) rfl 1 g34 51 (natsC (digR 16 v65)) _ (by with_unfolding_all rfl) (by with_unfolding_all rfl) Try.underlying51 rfl (sizeN Try.sz16 _ (digR_length 16 _)) E19.out ?_)
          | (with_reducible refine wpE_load (o := ⟨some 70, _, _, _, _, _⟩) rfl 51 (.tmp 19) rfl 0 g35 51 (natsC (digR 16 v68)) _ (by with_unfolding_all rfl) (by with_unfolding_all rfl) Try.underlying51 rfl (sizeN Try.sz16 _ (digR_length 16 _)) E19.out ?_))
        refine (C71.out _).mono ?_
        rintro e w80 ⟨rfl, b80⟩
        have E20 := Lib.hid (E19.out.call b80)
        clear b80 E19
        go_wp2_with (first
          | ((with_reducible refine wpE_alloc (o := ⟨some 20, _, _, _, _, _⟩) rfl 51 rfl (natsC (zero16)) Try.zero16 E20.out ?_); intro g36 w81 T21; have E21 := Lib.hid T21; clear T21)
          | ((with_reducible refine wpE_store (o := ⟨none, _, _, _, _, _⟩) rfl 51 (.tmp 20) (.tmp 71) rfl 0 g36 51 (natsC (zero16)) (natsC (digR 16 v71)) (by with_unfolding_all rfl) (by with_unfolding_all rfl) (by with_unfolding_all rfl) (natsC_same zero16_length (digR_length 16 _)) (sizeN Try.sz16 _ (digR_length 16 _)) (natsC_one _) E21.out ?_); intro w82 T22; simp only [List.set_cons_zero] at T22; have E22 := Lib.hid T22; clear T22))
        refine region_state (N := 117) E22.out (by kernel_rfl) [(0, .agg (natsC (digR 16 ra))), (1, .agg (natsC (digR 16 rb))), (2, .agg (natsC (digR 16 v74))), (3, .agg (natsC (digR 16 v59))), (4, .agg (natsC (digR 16 v76)))] [⟨5, 6, 51, (natsC (zero16)), (natsC (digR 16 v76))⟩] [72, 73, 74, 75, 76, 21] (by kernel_rfl) (by kernel_rfl) (by rfl) ⟨?_, ?_, ?_, ?_, ?_, trivial⟩ ⟨?_, trivial⟩ ?_
        · refine valE_run 0 _ (fun o ho ac wc h1 h2 hE => ?_)
          obtain rfl := Option.some.inj ho
          have e10 : ac.tmps.getD 10 undef = .pointer (some ⟨g8, 0, none⟩) := h2 10 (by kernel_rfl)
          exact run_load_row _ (.tmp 10) rfl g8 e10 51 (natsC (digR 16 ra)) (0, 0) _ (hE.row 7 rfl) Try.underlying51 rfl (sizeN Try.sz16 _ (digR_length 16 _))
        · refine valE_run 1 _ (fun o ho ac wc h1 h2 hE => ?_)
          obtain rfl := Option.some.inj ho
          have e11 : ac.tmps.getD 11 undef = .pointer (some ⟨g9, 0, none⟩) := h2 11 (by kernel_rfl)
          exact run_load_row _ (.tmp 11) rfl g9 e11 51 (natsC (digR 16 rb)) (0, 0) _ (hE.row 6 rfl) Try.underlying51 rfl (sizeN Try.sz16 _ (digR_length 16 _))
        · refine valE_call 2 _ 30 #[.agg (natsC (digR 16 ra)), .agg (natsC (digR 16 rb))] (fun w => C74.out w) (fun o ho ac wc h1 h2 => ?_)
          obtain rfl := Option.some.inj ho
          have e72 : ac.tmps.getD 72 undef = .agg (natsC (digR 16 ra)) := h1 0 _ rfl (by kernel_rfl) 72 rfl
          have e73 : ac.tmps.getD 73 undef = .agg (natsC (digR 16 rb)) := h1 1 _ rfl (by kernel_rfl) 73 rfl
          exact run_call_func 30 _ _ rfl _ (by simp [Act.eval, e72, e73]) (by go_simp)
        · refine valE_run 3 _ (fun o ho ac wc h1 h2 hE => ?_)
          obtain rfl := Option.some.inj ho
          have e16 : ac.tmps.getD 16 undef = .pointer (some ⟨g32, 0, none⟩) := h2 16 (by kernel_rfl)
          exact run_load_row _ (.tmp 16) rfl g32 e16 51 (natsC (digR 16 v59)) (0, 0) _ (hE.row 4 rfl) Try.underlying51 rfl (sizeN Try.sz16 _ (digR_length 16 _))
        · refine valE_call 4 _ 31 #[.agg (natsC (digR 16 v74)), .agg (natsC (digR 16 v59))] (fun w => C76.out w) (fun o ho ac wc h1 h2 => ?_)
          obtain rfl := Option.some.inj ho
          have e74 : ac.tmps.getD 74 undef = .agg (natsC (digR 16 v74)) := h1 2 _ rfl (by kernel_rfl) 74 rfl
          have e75 : ac.tmps.getD 75 undef = .agg (natsC (digR 16 v59)) := h1 3 _ rfl (by kernel_rfl) 75 rfl
          exact run_call_func 31 _ _ rfl _ (by simp [Act.eval, e74, e75]) (by go_simp)
        · exact ⟨⟨_, rfl, rfl, Try.zero16⟩, _, 21, 76, 4, rfl, rfl, by kernel_rfl, by kernel_rfl, natsC_same zero16_length (digR_length 16 _), (sizeN Try.sz16 _ (digR_length 16 _)), natsC_one _, by kernel_rfl, rfl⟩
        intro G w83 T23
        obtain ⟨g37, hg37⟩ : ∃ g, g = G 5 := ⟨_, rfl⟩
        simp only [List.map_cons, List.map_nil, List.cons_append, List.nil_append, ← hg37] at T23
        simp only [List.map_cons, List.map_nil, List.cons_append, List.nil_append, List.zip_cons_cons, List.zip_nil_right, putAll, ptrE, Act.put, List.setIfInBounds_toArray, List.set_cons_zero, List.set_cons_succ, ← hg37]
        have E23 := Lib.hid T23
        clear T23 E22 hg37 G
        go_wp2_with fail
        refine region_state (N := 117) E23.out (by kernel_rfl) [(0, .agg (natsC (digR 16 ra))), (1, .agg (natsC (digR 16 rb))), (2, .agg (natsC (digR 16 v79))), (3, .agg (natsC (digR 16 v62))), (4, .agg (natsC (digR 16 v81)))] [⟨5, 6, 51, (natsC (zero16)), (natsC (digR 16 v81))⟩] [77, 78, 79, 80, 81, 22] (by kernel_rfl) (by kernel_rfl) (by rfl) ⟨?_, ?_, ?_, ?_, ?_, trivial⟩ ⟨?_, trivial⟩ ?_
        · refine valE_run 0 _ (fun o ho ac wc h1 h2 hE => ?_)
          obtain rfl := Option.some.inj ho
          have e10 : ac.tmps.getD 10 undef = .pointer (some ⟨g8, 0, none⟩) := h2 10 (by kernel_rfl)
          exact run_load_row _ (.tmp 10) rfl g8 e10 51 (natsC (digR 16 ra)) (0, 0) _ (hE.row 8 rfl) Try.underlying51 rfl (sizeN Try.sz16 _ (digR_length 16 _))
        · refine valE_run 1 _ (fun o ho ac wc h1 h2 hE => ?_)
          obtain rfl := Option.some.inj ho
          have e11 : ac.tmps.getD 11 undef = .pointer (some ⟨g9, 0, none⟩) := h2 11 (by kernel_rfl)
          exact run_load_row _ (.tmp 11) rfl g9 e11 51 (natsC (digR 16 rb)) (0, 0) _ (hE.row 7 rfl) Try.underlying51 rfl (sizeN Try.sz16 _ (digR_length 16 _))
        · refine valE_call 2 _ 29 #[.agg (natsC (digR 16 ra)), .agg (natsC (digR 16 rb))] (fun w => C79.out w) (fun o ho ac wc h1 h2 => ?_)
          obtain rfl := Option.some.inj ho
          have e77 : ac.tmps.getD 77 undef = .agg (natsC (digR 16 ra)) := h1 0 _ rfl (by kernel_rfl) 77 rfl
          have e78 : ac.tmps.getD 78 undef = .agg (natsC (digR 16 rb)) := h1 1 _ rfl (by kernel_rfl) 78 rfl
          exact run_call_func 29 _ _ rfl _ (by simp [Act.eval, e77, e78]) (by go_simp)
        · refine valE_run 3 _ (fun o ho ac wc h1 h2 hE => ?_)
          obtain rfl := Option.some.inj ho
          have e17 : ac.tmps.getD 17 undef = .pointer (some ⟨g33, 0, none⟩) := h2 17 (by kernel_rfl)
          exact run_load_row _ (.tmp 17) rfl g33 e17 51 (natsC (digR 16 v62)) (0, 0) _ (hE.row 4 rfl) Try.underlying51 rfl (sizeN Try.sz16 _ (digR_length 16 _))
        · refine valE_call 4 _ 31 #[.agg (natsC (digR 16 v79)), .agg (natsC (digR 16 v62))] (fun w => C81.out w) (fun o ho ac wc h1 h2 => ?_)
          obtain rfl := Option.some.inj ho
          have e79 : ac.tmps.getD 79 undef = .agg (natsC (digR 16 v79)) := h1 2 _ rfl (by kernel_rfl) 79 rfl
          have e80 : ac.tmps.getD 80 undef = .agg (natsC (digR 16 v62)) := h1 3 _ rfl (by kernel_rfl) 80 rfl
          exact run_call_func 31 _ _ rfl _ (by simp [Act.eval, e79, e80]) (by go_simp)
        · exact ⟨⟨_, rfl, rfl, Try.zero16⟩, _, 22, 81, 4, rfl, rfl, by kernel_rfl, by kernel_rfl, natsC_same zero16_length (digR_length 16 _), (sizeN Try.sz16 _ (digR_length 16 _)), natsC_one _, by kernel_rfl, rfl⟩
        intro G w84 T24
        obtain ⟨g38, hg38⟩ : ∃ g, g = G 5 := ⟨_, rfl⟩
        simp only [List.map_cons, List.map_nil, List.cons_append, List.nil_append, ← hg38] at T24
        simp only [List.map_cons, List.map_nil, List.cons_append, List.nil_append, List.zip_cons_cons, List.zip_nil_right, putAll, ptrE, Act.put, List.setIfInBounds_toArray, List.set_cons_zero, List.set_cons_succ, ← hg38]
        have E24 := Lib.hid T24
        clear T24 E23 hg38 G
        go_wp2_with fail
        refine region_class_tail 7 _ E24.out.drew (by kernel_rfl) (by kernel_rfl) ?_
        simp only [List.take_succ_cons, List.take_zero, List.drop_succ_cons, List.drop_zero]
        refine qE_load (by rfl) _ (.tmp 21) rfl 1 g37 51 (natsC (digR 16 v76)) _ rfl rfl Try.underlying51 rfl (sizeN Try.sz16 _ (digR_length 16 _)) ?_
        simp only [Act.put, List.setIfInBounds_toArray, List.set_cons_zero, List.set_cons_succ]
        refine qE_load (by rfl) _ (.tmp 22) rfl 0 g38 51 (natsC (digR 16 v81)) _ rfl rfl Try.underlying51 rfl (sizeN Try.sz16 _ (digR_length 16 _)) ?_
        simp only [Act.put, List.setIfInBounds_toArray, List.set_cons_zero, List.set_cons_succ]
        refine q_call (by rfl) 29 _ (fun W => by go_simp) (fun W hW => hW.calls (C84.out W)) ?_
        simp only [Act.put, List.setIfInBounds_toArray, List.set_cons_zero, List.set_cons_succ]
        refine qE_load (by rfl) _ (.tmp 21) rfl 1 g37 51 (natsC (digR 16 v76)) _ rfl rfl Try.underlying51 rfl (sizeN Try.sz16 _ (digR_length 16 _)) ?_
        simp only [Act.put, List.setIfInBounds_toArray, List.set_cons_zero, List.set_cons_succ]
        refine qE_load (by rfl) _ (.tmp 22) rfl 0 g38 51 (natsC (digR 16 v81)) _ rfl rfl Try.underlying51 rfl (sizeN Try.sz16 _ (digR_length 16 _)) ?_
        simp only [Act.put, List.setIfInBounds_toArray, List.set_cons_zero, List.set_cons_succ]
        refine q_call (by rfl) 29 _ (fun W => by go_simp) (fun W hW => hW.calls (C84.out W)) ?_
        simp only [Act.put, List.setIfInBounds_toArray, List.set_cons_zero, List.set_cons_succ]
        refine q_call (by rfl) 31 _ (fun W => by go_simp) (fun W hW => hW.calls (C88.out W)) ?_
        simp only [Act.put, List.setIfInBounds_toArray, List.set_cons_zero, List.set_cons_succ]
        refine wpQuiet_nil ?_
        intro w85 T25
        have E25 := Lib.hid T25
        clear T25 E24
        go_wp2_with (first
          | ((with_reducible refine wpE_store (o := ⟨none, _, _, _, _, _⟩) rfl 51 (.tmp 10) (.tmp 88) rfl 9 g8 51 (natsC (digR 16 ra)) (natsC (digR 16 v88)) (by with_unfolding_all rfl) (by with_unfolding_all rfl) (by with_unfolding_all rfl) (natsC_same (digR_length 16 _) (digR_length 16 _)) (sizeN Try.sz16 _ (digR_length 16 _)) (natsC_one _) E25.out ?_); intro w86 T26; simp only [List.set_cons_zero, List.set_cons_succ] at T26; have E26 := Lib.hid T26; clear T26))
        refine region_class_tail 9 _ E26.out.drew (by kernel_rfl) (by kernel_rfl) ?_
        simp only [List.take_succ_cons, List.take_zero, List.drop_succ_cons, List.drop_zero]
        refine qE_load (by rfl) _ (.tmp 6) rfl 12 g5 51 (natsC (digR 16 u)) _ rfl rfl Try.underlying51 rfl (sizeN Try.sz16 _ (digR_length 16 _)) ?_
        simp only [Act.put, List.setIfInBounds_toArray, List.set_cons_zero, List.set_cons_succ]
        refine qE_load (by rfl) _ (.tmp 21) rfl 1 g37 51 (natsC (digR 16 v76)) _ rfl rfl Try.underlying51 rfl (sizeN Try.sz16 _ (digR_length 16 _)) ?_
        simp only [Act.put, List.setIfInBounds_toArray, List.set_cons_zero, List.set_cons_succ]
        refine qE_load (by rfl) _ (.tmp 22) rfl 0 g38 51 (natsC (digR 16 v81)) _ rfl rfl Try.underlying51 rfl (sizeN Try.sz16 _ (digR_length 16 _)) ?_
        simp only [Act.put, List.setIfInBounds_toArray, List.set_cons_zero, List.set_cons_succ]
        refine q_call (by rfl) 30 _ (fun W => by go_simp) (fun W hW => hW.calls (C92.out W)) ?_
        simp only [Act.put, List.setIfInBounds_toArray, List.set_cons_zero, List.set_cons_succ]
        refine qE_load (by rfl) _ (.tmp 21) rfl 1 g37 51 (natsC (digR 16 v76)) _ rfl rfl Try.underlying51 rfl (sizeN Try.sz16 _ (digR_length 16 _)) ?_
        simp only [Act.put, List.setIfInBounds_toArray, List.set_cons_zero, List.set_cons_succ]
        refine qE_load (by rfl) _ (.tmp 22) rfl 0 g38 51 (natsC (digR 16 v81)) _ rfl rfl Try.underlying51 rfl (sizeN Try.sz16 _ (digR_length 16 _)) ?_
        simp only [Act.put, List.setIfInBounds_toArray, List.set_cons_zero, List.set_cons_succ]
        refine q_call (by rfl) 30 _ (fun W => by go_simp) (fun W hW => hW.calls (C92.out W)) ?_
        simp only [Act.put, List.setIfInBounds_toArray, List.set_cons_zero, List.set_cons_succ]
        refine q_call (by rfl) 31 _ (fun W => by go_simp) (fun W hW => hW.calls (C96.out W)) ?_
        simp only [Act.put, List.setIfInBounds_toArray, List.set_cons_zero, List.set_cons_succ]
        refine q_call (by rfl) 31 _ (fun W => by go_simp) (fun W hW => hW.calls (C97.out W)) ?_
        simp only [Act.put, List.setIfInBounds_toArray, List.set_cons_zero, List.set_cons_succ]
        refine wpQuiet_nil ?_
        intro w87 T27
        have E27 := Lib.hid T27
        clear T27 E26
        go_wp2_with (first
          | ((with_reducible refine wpE_store (o := ⟨none, _, _, _, _, _⟩) rfl 51 (.tmp 11) (.tmp 97) rfl 8 g9 51 (natsC (digR 16 rb)) (natsC (digR 16 v97)) (by with_unfolding_all rfl) (by with_unfolding_all rfl) (by with_unfolding_all rfl) (natsC_same (digR_length 16 _) (digR_length 16 _)) (sizeN Try.sz16 _ (digR_length 16 _)) (natsC_one _) E27.out ?_); intro w88 T28; simp only [List.set_cons_zero, List.set_cons_succ] at T28; have E28 := Lib.hid T28; clear T28)
          | (with_reducible refine wpE_load (o := ⟨some 98, _, _, _, _, _⟩) rfl 51 (.tmp 18) rfl 4 g34 51 (natsC (digR 16 v65)) _ (by with_unfolding_all rfl) (by with_unfolding_all rfl) Try.underlying51 rfl (sizeN Try.sz16 _ (digR_length 16 _)) E28.out ?_)
          | (with_reducible refine wpE_load (o := ⟨some 99, _, _, _, _, _⟩) rfl 51 (.tmp 19) rfl 3 g35 51 (natsC (digR 16 v68)) _ (by with_unfolding_all rfl) (by with_unfolding_all rfl) Try.underlying51 rfl (sizeN Try.sz16 _ (digR_length 16 _)) E28.out ?_))
        refine (C100.out _).mono ?_
        rintro e w89 ⟨rfl, b89⟩
        have E29 := Lib.hid (E28.out.call b89)
        clear b89 E28
        go_wp2_with (first
          | ((with_reducible refine wpE_store (o := ⟨none, _, _, _, _, _⟩) rfl 51 (.tmp 8) (.tmp 100) rfl 11 g6 51 (natsC (digR 16 rc)) (natsC (digR 16 v100)) (by with_unfolding_all rfl) (by with_unfolding_all rfl) (by with_unfolding_all rfl) (natsC_same (digR_length 16 _) (digR_length 16 _)) (sizeN Try.sz16 _ (digR_length 16 _)) (natsC_one _) E29.out ?_); intro w90 T30; simp only [List.set_cons_zero, List.set_cons_succ] at T30; have E30 := Lib.hid T30; clear T30))
        refine region_class_tail 7 _ E30.out.drew (by kernel_rfl) (by kernel_rfl) ?_
        simp only [List.take_succ_cons, List.take_zero, List.drop_succ_cons, List.drop_zero]
        refine qE_load (by rfl) _ (.tmp 20) rfl 2 g36 51 (natsC (digR 16 v71)) _ rfl rfl Try.underlying51 rfl (sizeN Try.sz16 _ (digR_length 16 _)) ?_
        simp only [Act.put, List.setIfInBounds_toArray, List.set_cons_zero, List.set_cons_succ]
        refine qE_load (by rfl) _ (.tmp 18) rfl 4 g34 51 (natsC (digR 16 v65)) _ rfl rfl Try.underlying51 rfl (sizeN Try.sz16 _ (digR_length 16 _)) ?_
        simp only [Act.put, List.setIfInBounds_toArray, List.set_cons_zero, List.set_cons_succ]
        refine q_call (by rfl) 28 _ (fun W => by go_simp) (fun W hW => hW.calls (C103.out W)) ?_
        simp only [Act.put, List.setIfInBounds_toArray, List.set_cons_zero, List.set_cons_succ]
        refine qE_load (by rfl) _ (.tmp 20) rfl 2 g36 51 (natsC (digR 16 v71)) _ rfl rfl Try.underlying51 rfl (sizeN Try.sz16 _ (digR_length 16 _)) ?_
        simp only [Act.put, List.setIfInBounds_toArray, List.set_cons_zero, List.set_cons_succ]
        refine q_call (by rfl) 31 _ (fun W => by go_simp) (fun W hW => hW.calls (C105.out W)) ?_
        simp only [Act.put, List.setIfInBounds_toArray, List.set_cons_zero, List.set_cons_succ]
        refine q_call (by rfl) 29 _ (fun W => by go_simp) (fun W hW => hW.calls (C106.out W)) ?_
        simp only [Act.put, List.setIfInBounds_toArray, List.set_cons_zero, List.set_cons_succ]
        refine q_call (by rfl) 31 _ (fun W => by go_simp) (fun W hW => hW.calls (C107.out W)) ?_
        simp only [Act.put, List.setIfInBounds_toArray, List.set_cons_zero, List.set_cons_succ]
        refine wpQuiet_nil ?_
        intro w91 T31
        have E31 := Lib.hid T31
        clear T31 E30
        go_wp2_with (first
          | ((with_reducible refine wpE_store (o := ⟨none, _, _, _, _, _⟩) rfl 51 (.tmp 9) (.tmp 107) rfl 10 g7 51 (natsC (digR 16 rd)) (natsC (digR 16 v107)) (by with_unfolding_all rfl) (by with_unfolding_all rfl) (by with_unfolding_all rfl) (natsC_same (digR_length 16 _) (digR_length 16 _)) (sizeN Try.sz16 _ (digR_length 16 _)) (natsC_one _) E31.out ?_); intro w92 T32; simp only [List.set_cons_zero, List.set_cons_succ] at T32; have E32 := Lib.hid T32; clear T32))
        go_roundw
        case rel =>
          have EZ := E32.out.tl.tl.tl.tl.tl.tl.tl.tl
          rw [HS.out.1, HS.out.2.1, HS.out.2.2.1, HS.out.2.2.2] at EZ
          exact ⟨k + 1, by omega, by congr 1; have := HLm.out; omega, by rw [HL.out], EZ⟩
        case measure => simp [intOf]; omega
    · have hk255 : k = 255 := by omega
      subst hk255
      have hend : endN cs u = (runN cs u 255).swap (lastN cs 255) := rfl
      have hmul : multN cs u = (endN cs u).a * invF (endN cs u).b % pF := rfl
      generalize runN cs u 255 = rr at hE hok hend
      obtain ⟨ra, rb, rc, rd⟩ := rr
      have bra : ra < pF := hok.1
      have brb : rb < pF := hok.2.1
      have brc : rc < pF := hok.2.2.1
      have brd : rd < pF := hok.2.2.2
      generalize lastN cs 255 = lt at hend ⊢
      have E0 := Lib.hid (show Env w [(g9, 51, natsC (digR 16 rd)), (g8, 51, natsC (digR 16 rc)), (g7, 51, natsC (digR 16 rb)), (g6, 51, natsC (digR 16 ra)), (g5, 51, (natsC (digR 16 u))), (g4, 23, (keyC (cs))), (g3, 23, (keyC (zeroKey))), (g2, 23, (keyC (p))), (g1, 23, (keyC (s)))] _ from hE)
      cases lt
      · obtain ⟨v114, hv114⟩ : ∃ v, v = powF rb (pF - 2) := ⟨_, rfl⟩
        have bv114 : v114 < pF := by rw [hv114]; exact powF_lt _ _
        have C114 : Hid (∀ w, Calls Try.prog 33 #[.agg (natsC (digR 16 rb))] w (RetV w (.agg (natsC (digR 16 v114))))) := by rw [hv114]; exact fun w => refInvert_any rb brb w
        obtain ⟨v115, hv115⟩ : ∃ v, v = ra * v114 % pF := ⟨_, rfl⟩
        have bv115 : v115 < pF := by rw [hv115]; exact modF_lt _
        have C115 : Hid (∀ w, Calls Try.prog 31 #[.agg (natsC (digR 16 ra)), .agg (natsC (digR 16 v114))] w (RetV w (.agg (natsC (digR 16 v115))))) := by rw [hv115]; exact fun w => refMul_any ra v114 bra bv114 w
        obtain ⟨k116, hk116⟩ : ∃ v, v = lowB v115 32 := ⟨_, rfl⟩
        have Lk116 : Hid (k116.length = 32) := by show _ = _; rw [hk116]; exact lowB_length _ _
        have C116 : Hid (∀ w, Calls Try.prog 32 #[.agg (natsC (digR 16 v115))] w (RetV w (.agg (keyC (k116))))) := by rw [hk116]; exact fun w => refKey_any v115 w
        have HR : Hid (keyC (rawK s p) = keyC (k116)) := by show _ = _; rw [HRW.out, hmul, hend, hk116, hv115, hv114]; rfl
        clear hv114 bv114 hv115 bv115 hk116 hend hmul bra brb brc brd hok hE
        go_wp2_with fail
        refine region_class_tail 5 _ E0.out.drew (by kernel_rfl) (by kernel_rfl) ?_
        simp only [List.take_succ_cons, List.take_zero, List.drop_succ_cons, List.drop_zero]
        refine qE_load (by rfl) _ (.tmp 8) rfl 3 g6 51 (natsC (digR 16 ra)) _ rfl rfl Try.underlying51 rfl (sizeN Try.sz16 _ (digR_length 16 _)) ?_
        simp only [Act.put, List.setIfInBounds_toArray, List.set_cons_zero, List.set_cons_succ]
        refine qE_load (by rfl) _ (.tmp 9) rfl 2 g7 51 (natsC (digR 16 rb)) _ rfl rfl Try.underlying51 rfl (sizeN Try.sz16 _ (digR_length 16 _)) ?_
        simp only [Act.put, List.setIfInBounds_toArray, List.set_cons_zero, List.set_cons_succ]
        refine q_call (by rfl) 33 _ (fun W => by go_simp) (fun W hW => hW.calls (C114.out W)) ?_
        simp only [Act.put, List.setIfInBounds_toArray, List.set_cons_zero, List.set_cons_succ]
        refine q_call (by rfl) 31 _ (fun W => by go_simp) (fun W hW => hW.calls (C115.out W)) ?_
        simp only [Act.put, List.setIfInBounds_toArray, List.set_cons_zero, List.set_cons_succ]
        refine q_call (by rfl) 32 _ (fun W => by go_simp) (fun W hW => hW.calls (C116.out W)) ?_
        simp only [Act.put, List.setIfInBounds_toArray, List.set_cons_zero, List.set_cons_succ]
        refine wpQuiet_nil ?_
        intro w61 T1
        have E1 := Lib.hid T1
        clear T1 E0
        go_wp2_with (first
          | ((with_reducible refine wpE_store (o := ⟨none, _, _, _, _, _⟩) rfl 23 (.tmp 4) (.tmp 116) rfl 6 g3 23 (keyC (zeroKey)) (keyC (k116)) (by with_unfolding_all rfl) (by with_unfolding_all rfl) (by with_unfolding_all rfl) (keyC_same zeroKey_length Lk116.out) (Try.sizeKey _ Lk116.out) (keyC_one _) E1.out ?_); intro w62 T2; simp only [List.set_cons_zero, List.set_cons_succ] at T2; have E2 := Lib.hid T2; clear T2))
        refine bodyPost_ret (results_cell_row rfl _ _ g3 23 (keyC (k116)) (0, 0) _ rfl (E2.out.row 6 rfl) Try.underlying23 rfl (Try.sizeKey _ Lk116.out)) rfl ⟨?_, E2.out.below⟩
        rw [HR.out]
      · obtain ⟨v114, hv114⟩ : ∃ v, v = powF rd (pF - 2) := ⟨_, rfl⟩
        have bv114 : v114 < pF := by rw [hv114]; exact powF_lt _ _
        have C114 : Hid (∀ w, Calls Try.prog 33 #[.agg (natsC (digR 16 rd))] w (RetV w (.agg (natsC (digR 16 v114))))) := by rw [hv114]; exact fun w => refInvert_any rd brd w
        obtain ⟨v115, hv115⟩ : ∃ v, v = rc * v114 % pF := ⟨_, rfl⟩
        have bv115 : v115 < pF := by rw [hv115]; exact modF_lt _
        have C115 : Hid (∀ w, Calls Try.prog 31 #[.agg (natsC (digR 16 rc)), .agg (natsC (digR 16 v114))] w (RetV w (.agg (natsC (digR 16 v115))))) := by rw [hv115]; exact fun w => refMul_any rc v114 brc bv114 w
        obtain ⟨k116, hk116⟩ : ∃ v, v = lowB v115 32 := ⟨_, rfl⟩
        have Lk116 : Hid (k116.length = 32) := by show _ = _; rw [hk116]; exact lowB_length _ _
        have C116 : Hid (∀ w, Calls Try.prog 32 #[.agg (natsC (digR 16 v115))] w (RetV w (.agg (keyC (k116))))) := by rw [hk116]; exact fun w => refKey_any v115 w
        have HR : Hid (keyC (rawK s p) = keyC (k116)) := by show _ = _; rw [HRW.out, hmul, hend, hk116, hv115, hv114]; rfl
        clear hv114 bv114 hv115 bv115 hk116 hend hmul bra brb brc brd hok hE
        go_wp2_with (first
          | (with_reducible refine wpE_load (o := ⟨some 110, _, _, _, _, _⟩) rfl 51 (.tmp 10) rfl 1 g8 51 (natsC (digR 16 rc)) _ (by with_unfolding_all rfl) (by with_unfolding_all rfl) Try.underlying51 rfl (sizeN Try.sz16 _ (digR_length 16 _)) E0.out ?_)
          | ((with_reducible refine wpE_store (o := ⟨none, _, _, _, _, _⟩) rfl 51 (.tmp 8) (.tmp 110) rfl 3 g6 51 (natsC (digR 16 ra)) (natsC (digR 16 rc)) (by with_unfolding_all rfl) (by with_unfolding_all rfl) (by with_unfolding_all rfl) (natsC_same (digR_length 16 _) (digR_length 16 _)) (sizeN Try.sz16 _ (digR_length 16 _)) (natsC_one _) E0.out ?_); intro w61 T1; simp only [List.set_cons_zero, List.set_cons_succ] at T1; have E1 := Lib.hid T1; clear T1)
          | (with_reducible refine wpE_load (o := ⟨some 111, _, _, _, _, _⟩) rfl 51 (.tmp 11) rfl 0 g9 51 (natsC (digR 16 rd)) _ (by with_unfolding_all rfl) (by with_unfolding_all rfl) Try.underlying51 rfl (sizeN Try.sz16 _ (digR_length 16 _)) E1.out ?_)
          | ((with_reducible refine wpE_store (o := ⟨none, _, _, _, _, _⟩) rfl 51 (.tmp 9) (.tmp 111) rfl 2 g7 51 (natsC (digR 16 rb)) (natsC (digR 16 rd)) (by with_unfolding_all rfl) (by with_unfolding_all rfl) (by with_unfolding_all rfl) (natsC_same (digR_length 16 _) (digR_length 16 _)) (sizeN Try.sz16 _ (digR_length 16 _)) (natsC_one _) E1.out ?_); intro w62 T2; simp only [List.set_cons_zero, List.set_cons_succ] at T2; have E2 := Lib.hid T2; clear T2))
        refine region_class_tail 5 _ E2.out.drew (by kernel_rfl) (by kernel_rfl) ?_
        simp only [List.take_succ_cons, List.take_zero, List.drop_succ_cons, List.drop_zero]
        refine qE_load (by rfl) _ (.tmp 8) rfl 3 g6 51 (natsC (digR 16 rc)) _ rfl rfl Try.underlying51 rfl (sizeN Try.sz16 _ (digR_length 16 _)) ?_
        simp only [Act.put, List.setIfInBounds_toArray, List.set_cons_zero, List.set_cons_succ]
        refine qE_load (by rfl) _ (.tmp 9) rfl 2 g7 51 (natsC (digR 16 rd)) _ rfl rfl Try.underlying51 rfl (sizeN Try.sz16 _ (digR_length 16 _)) ?_
        simp only [Act.put, List.setIfInBounds_toArray, List.set_cons_zero, List.set_cons_succ]
        refine q_call (by rfl) 33 _ (fun W => by go_simp) (fun W hW => hW.calls (C114.out W)) ?_
        simp only [Act.put, List.setIfInBounds_toArray, List.set_cons_zero, List.set_cons_succ]
        refine q_call (by rfl) 31 _ (fun W => by go_simp) (fun W hW => hW.calls (C115.out W)) ?_
        simp only [Act.put, List.setIfInBounds_toArray, List.set_cons_zero, List.set_cons_succ]
        refine q_call (by rfl) 32 _ (fun W => by go_simp) (fun W hW => hW.calls (C116.out W)) ?_
        simp only [Act.put, List.setIfInBounds_toArray, List.set_cons_zero, List.set_cons_succ]
        refine wpQuiet_nil ?_
        intro w63 T3
        have E3 := Lib.hid T3
        clear T3 E2
        go_wp2_with (first
          | ((with_reducible refine wpE_store (o := ⟨none, _, _, _, _, _⟩) rfl 23 (.tmp 4) (.tmp 116) rfl 6 g3 23 (keyC (zeroKey)) (keyC (k116)) (by with_unfolding_all rfl) (by with_unfolding_all rfl) (by with_unfolding_all rfl) (keyC_same zeroKey_length Lk116.out) (Try.sizeKey _ Lk116.out) (keyC_one _) E3.out ?_); intro w64 T4; simp only [List.set_cons_zero, List.set_cons_succ] at T4; have E4 := Lib.hid T4; clear T4))
        refine bodyPost_ret (results_cell_row rfl _ _ g3 23 (keyC (k116)) (0, 0) _ rfl (E4.out.row 6 rfl) Try.underlying23 rfl (Try.sizeKey _ Lk116.out)) rfl ⟨?_, E4.out.below⟩
        rw [HR.out]
end Go.Proofs.Ytpgjcmccfpjmoaa
end
