/-
  Texts that belong together, merged: FieldRefH. Conditions: as each theorem names them.
-/
import Derived.Test.YtpgjcmccfpjmoaaQLadAL
section
namespace Go.Proofs.Ytpgjcmccfpjmoaa
open Go.RowKit
set_option linter.unusedVariables false
set_option maxRecDepth 20000

theorem digR_take15 (n : Nat) : (digR 16 n).set 15 ((digR 16 n).getD 15 0 % 32768) = digR 16 (n % Mx ^ 5) := by
  rw [digR_get n 16 15 (by decide)]
  have h15 : (digR 15 n).length = 15 := digR_length 15 n
  have e5 : Mx ^ 5 = Bx ^ 15 * 32768 := by decide +kernel
  have ea : digR 15 (n % Mx ^ 5) = digR 15 n := by
    have h := digR_mod 15 (n % Mx ^ 5) (32768 * (n / Mx ^ 5))
    rw [← Nat.mul_assoc, ← e5, Nat.mod_add_div] at h
    exact h.symm
  have eb : n % Mx ^ 5 / Bx ^ 15 = n / Bx ^ 15 % 32768 := by rw [e5]; exact Nat.mod_mul_right_div_self _ _ _
  rw [digR_snoc 15 n, digR_snoc 15 (n % Mx ^ 5), ea, eb, List.set_append_right _ _ (by rw [h15]; exact Nat.le_refl _), h15, Nat.sub_self, List.set_cons_zero]
  congr 2
  unfold Bx
  omega
theorem high_bit (n : Nat) (h : n < 256 ^ 32) : decide (32768 ≤ (digR 16 n).getD 15 0) = !decide (n < Mx ^ 5) := by
  rw [digR_get n 16 15 (by decide)]
  have e5 : Mx ^ 5 = Bx ^ 15 * 32768 := by decide +kernel
  have e6 : (256 : Nat) ^ 32 = Bx ^ 15 * 65536 := by decide +kernel
  have h1 : n / Bx ^ 15 < 65536 := Nat.div_lt_of_lt_mul (by rw [← e6]; exact h)
  have h2 : n / Bx ^ 15 % Bx = n / Bx ^ 15 := Nat.mod_eq_of_lt h1
  rw [h2, Bool.eq_iff_iff, decide_eq_true_eq, Bool.not_eq_true', decide_eq_false_iff_not, Nat.not_lt, e5, Nat.le_div_iff_mul_le (Nat.pow_pos Bx_pos), Nat.mul_comm]
/-- Whether the first k digits are the same, and it was not too high. -/
def sameTo (h : Bool) (x y : List Nat) : Nat → Bool
  | 0 => h
  | k + 1 => sameTo h x y k && (x.getD k 0 == y.getD k 0)
theorem sameTo_iff (h : Bool) (x y : List Nat) (k : Nat) : sameTo h x y k = true ↔ h = true ∧ ∀ j, j < k → x.getD j 0 = y.getD j 0 := by
  induction k with
  | zero => simp [sameTo]
  | succ k ih =>
    simp only [sameTo, Bool.and_eq_true, ih, beq_iff_eq]
    constructor
    · rintro ⟨⟨h1, h2⟩, h3⟩
      refine ⟨h1, fun j hj => ?_⟩
      rcases Nat.lt_succ_iff_lt_or_eq.1 hj with h | rfl
      · exact h2 j h
      · exact h3
    · rintro ⟨h1, h2⟩
      exact ⟨⟨h1, fun j hj => h2 j (by omega)⟩, h2 k (by omega)⟩
theorem sameTo_whole (n : Nat) (h : n < 256 ^ 32) : sameTo (!decide (32768 ≤ (digR 16 n).getD 15 0)) (digR 16 (n % Mx ^ 5 % pF)) (digR 16 (n % Mx ^ 5)) 16 = decide (n < pF) := by
  rw [high_bit n h, Bool.not_not, Bool.eq_iff_iff, sameTo_iff, decide_eq_true_eq, decide_eq_true_eq]
  have hM : Mx ^ 5 < Bx ^ 16 := by decide +kernel
  have hp := pF_lt
  constructor
  · rintro ⟨h1, h2⟩
    have e : digR 16 (n % Mx ^ 5 % pF) = digR 16 (n % Mx ^ 5) := by
      apply List.ext_getElem (by rw [digR_length, digR_length])
      intro j h3 h4
      have := h2 j (by rw [digR_length] at h3; exact h3)
      simpa [List.getD_eq_getElem?_getD, h3, h4] using this
    have hm : n % Mx ^ 5 < Bx ^ 16 := Nat.lt_trans (Nat.mod_lt _ (by decide +kernel)) hM
    have := digR_inj (Nat.lt_of_le_of_lt (Nat.mod_le _ _) hm) hm e
    rw [Nat.mod_eq_of_lt h1] at this
    rw [← this]
    exact Nat.mod_lt _ (by decide)
  · intro h1
    have h2 : n < Mx ^ 5 := Nat.lt_trans h1 hp
    exact ⟨h2, fun j _ => by rw [Nat.mod_eq_of_lt h2, Nat.mod_eq_of_lt h1]⟩

theorem set15_with0 (z : List Nat) (h : z.length = 16) (x : Nat) : (z ++ [0]).set 15 x = z.set 15 x ++ [0] := List.set_append_left _ _ (by omega)

set_option maxHeartbeats 4000000 in
theorem refOf_any (key : List UInt8) (hk : key.length = 32) (w : World) :
    Calls Try.prog 27 #[keyV key] w (RetV w (.tuple #[.agg (natsC (digR 16 (numK key))), .bool (decide (ofLowB key < pF))])) := by
  have hV : ofLowB key < 256 ^ 32 := by rw [← hk]; exact ofLowB_lt key
  have hkey : lowB (ofLowB key) 32 = key := lowB_ofLowB key hk
  have hlo : ∀ k (h : k < 16) (h2 : 2 * k < key.length), (key[2 * k]'h2).toNat = (digR 16 (ofLowB key)).getD k 0 % 256   := fun k h h2 => by
    rw [← low_byte (ofLowB key) k h]
    congr 1
    conv => lhs; rw [show key[2 * k]'(by omega) = (lowB (ofLowB key) 32)[2 * k]'(by rw [lowB_length]; omega) from by congr 1; exact hkey.symm]
    simp [lowB]
  have hhi : ∀ k (h : k < 16) (h2 : 2 * k + 1 < key.length), (key[2 * k + 1]'h2).toNat = (digR 16 (ofLowB key)).getD k 0 / 256   := fun k h h2 => by
    rw [← high_byte (ofLowB key) k h]
    congr 1
    conv => lhs; rw [show key[2 * k + 1]'(by omega) = (lowB (ofLowB key) 32)[2 * k + 1]'(by rw [lowB_length]; omega) from by congr 1; exact hkey.symm]
    simp [lowB]
  have hall := sameTo_whole (ofLowB key) hV
  have hset := digR_take15 (ofLowB key)
  have LE : Hid (∀ w, Calls Try.prog 47 #[.agg (natsC (digR 16 (ofLowB key % Mx ^ 5) ++ [0]))] w (RetV w (.agg (natsC (digR 16 (numK key)))))) := fun w => by
    have h := least_any (digR 16 (ofLowB key % Mx ^ 5) ++ [0]) (by simp [digR_length]) (with0_lt _ 70368744177664 (fun x hx => Nat.lt_trans (digR_lt 16 _ x hx) (by decide)) (by omega)) w
    rw [with0_val _ (digR_length 16 _), val_digR, Nat.mod_eq_of_lt (b := Bx ^ 16) (Nat.lt_trans (Nat.mod_lt _ (by decide +kernel)) (show Mx ^ 5 < Bx ^ 16 by decide +kernel))] at h
    exact h
  have HDB : Hid (∀ k, (digR 16 (ofLowB key)).getD k 0 < 65536) := fun k => digD_lt _ k
  have HEB : Hid (∀ k, (digR 16 (ofLowB key % Mx ^ 5)).getD k 0 < 65536) := fun k => digD_lt _ k
  have HRL : Hid ((digR 16 (numK key)).length = 16) := digR_length 16 _
  have HZL : Hid ((digR 16 (ofLowB key)).length = 16) := digR_length 16 _
  have HYL : Hid ((digR 16 (ofLowB key % Mx ^ 5)).length = 16) := digR_length 16 _
  have e0 : numK key = ofLowB key % Mx ^ 5 % pF := rfl
  rw [← e0] at hall
  generalize decide (ofLowB key < pF) = whole at hall ⊢
  generalize digR 16 (numK key) = res at LE HRL hall ⊢
  generalize digR 16 (ofLowB key % Mx ^ 5) = y at LE HYL hall hset HEB
  generalize digR 16 (ofLowB key) = z at HDB HZL hall hset hlo hhi
  have HLO := Lib.hid hlo
  have HHI := Lib.hid hhi
  have HALL := Lib.hid hall
  have HSET := Lib.hid hset
  have HK := Lib.hid hk
  have HZ17 : Hid ((z ++ [0]).length = 17) := by show _ = _; simp [HZL.out]
  have HY17 : Hid ((y ++ [0]).length = 17) := by show _ = _; simp [HYL.out]
  clear hV hkey hlo hhi hall hset e0 hk
  have E0 := Env.start w
  go_enter Try.func27, Try.ntmps27
  go_wp2_with (first
    | ((with_reducible refine wpE_box (o := ⟨some 1, _, _, _, _, _⟩) rfl 23 (.tmp 0) rfl (keyC key) (by with_unfolding_all rfl) E0 ?_); intro g1 w1 E1)
    | ((with_reducible refine wpE_alloc (o := ⟨some 2, _, _, _, _, _⟩) rfl 51 rfl (natsC (zero16)) Try.zero16 E1 ?_); intro g2 w2 E2)
    | ((with_reducible refine wpE_alloc (o := ⟨some 4, _, _, _, _, _⟩) rfl 88 rfl (natsC (zero17)) Try.zero17 E2 ?_); intro g4 w4 E4)
    | ((with_reducible refine wpE_store (o := ⟨none, _, _, _, _, _⟩) rfl 88 (.tmp 4) (.tmp 10) rfl 0 g4 88 (natsC (zero17)) (natsC (zero17)) (by with_unfolding_all rfl) (by with_unfolding_all rfl) (by with_unfolding_all exact zero17V) (natsC_same zero17_length zero17_length) (sizeN Try.sz17 _ zero17_length) (natsC_one _) E4 ?_); intro w5 E5; simp only [List.set_cons_zero] at E5))
  have E6 := Lib.hid E5
  clear E0 E1 E2 E4 E5
  go_loopw [5] (fun i wr => ∃ k : Nat, k ≤ 16 ∧ i = .int .i64 k ∧ Env w [(g4, 88, natsC (stP (z ++ [0]) zero17 k)), (g2, 51, natsC zero16), (g1, 23, keyC key)] wr) (fun i _ => 16 - (intOf i).toNat)
  case atStart => exact ⟨0, by omega, rfl, by rw [stP_zero]; exact E6.out⟩
  case round =>
    clear E6
    obtain ⟨k, hk, rfl, hE⟩ := hrel
    have E := Lib.hid hE
    clear hE
    by_cases hlt : k < 16
    · have c1 := bytesC_cell (E.out.row 2 rfl) (2 * k) (by rw [HK.out]; omega)
      have c2 := bytesC_cell (E.out.row 2 rfl) (2 * k + 1) (by rw [HK.out]; omega)
      rw [HLO.out k hlt (by rw [HK.out]; omega)] at c1
      rw [HHI.out k hlt (by rw [HK.out]; omega)] at c2
      have c3 := E.out.getN 0 rfl k (by rw [stP_length _ _ HZ17.out zero17_length k (by omega)]; omega)
      have f3 := E.out.fzN 0 rfl k
      have hst := stP_step (z ++ [0]) zero17 HZ17.out zero17_length k (by omega)
      rw [with0_get z HZL.out k hlt] at hst
      have b1 := HDB.out k
      generalize z.getD k 0 = d at c1 c2 b1 hst
      generalize (stP (z ++ [0]) zero17 k).getD k 0 = old at c3
      obtain ⟨r, hr⟩ : ∃ r, r = d % 256 := ⟨_, rfl⟩
      obtain ⟨u, hu⟩ : ∃ r, r = d / 256 := ⟨_, rfl⟩
      rw [← hr] at c1
      rw [← hu] at c2
      have v1 : IntKind.u64.wrap (r : Int) = (r : Int) := wrap64 r (by omega)
      have v2 : IntKind.u64.wrap (u : Int) = (u : Int) := wrap64 u (by omega)
      have v3 : IntKind.u64.wrap (256 * (u : Int)) = ((256 * u : Nat) : Int) := by rw [IntKind.wrap_u64]; omega
      have v4 : IntKind.u64.wrap ((r : Int) + ((256 * u : Nat) : Int)) = (d : Int) := by rw [IntKind.wrap_u64]; omega
      have v3' : IntKind.u64.wrap ((u : Int) * 256) = ((256 * u : Nat) : Int) := by rw [IntKind.wrap_u64]; omega
      generalize 256 * u = m at v3 v3' v4
      have E4 := E.out.drew.cellN 0 rfl k d
      simp only [List.set_cons_zero] at E4
      rw [hst] at E4
      have HE := Lib.hid E4
      have hw1 : IntKind.i64.wrap (2 * (k : Int)) = 2 * (k : Int) := IntWalk.i64_in _ (by omega)
      have hw2 : IntKind.i64.wrap (2 * (k : Int) + 1) = 2 * (k : Int) + 1 := IntWalk.i64_in _ (by omega)
      have hq1 : (2 * (k : Int)).toNat = 2 * k := by omega
      have hq2 : (2 * (k : Int) + 1).toNat = 2 * k + 1 := by omega
      have hq3 : 2 * (k : Int) < 32 := by omega
      have hq4 : 2 * (k : Int) + 1 < 32 := by omega
      have hq6 : 0 ≤ 2 * (k : Int) + 1 := by omega
      have hq7 : 0 ≤ 2 * (k : Int) := by omega
      have hk5 : (k : Int) < 16 := by omega
      have hk6 : (k : Int) < 17 := by omega
      clear hst E4 E hr hu
      go_wp2_with fail
      go_still_tail 15, (by kernel_rfl)
      change wpList _ _ _ _ _ wr.drew
      have c4 : wr.drew.cell? ⟨g4, k, none⟩ = some (.int .u64 (old : Int)) := c3
      have f4 : wr.drew.frozen? ⟨g4, k, none⟩ = false := f3
      clear c1 c2 c3 f3 v1 v2 v3 v4 v3'
      go_wp2
      go_roundw
      case rel => exact ⟨k + 1, by omega, by go_num, HE.out⟩
      case measure => simp [intOf]; omega
    · have hk16 : k = 16 := by omega
      have E4 := E.out
      rw [hk16, stP_with0 z HZL.out] at E4
      have c1 := E4.getN 0 rfl 15 (by rw [HZ17.out]; omega)
      have f1 := E4.fzN 0 rfl 15
      rw [with0_get z HZL.out 15 (by omega)] at c1
      have b1 := HDB.out 15
      have E5 := E4.cellN 0 rfl 15 (z.getD 15 0 % 32768)
      simp only [List.set_cons_zero] at E5
      rw [set15_with0 z HZL.out, HSET.out] at E5
      have hall := HALL.out
      generalize z.getD 15 0 = d at c1 b1 E5 hall
      obtain ⟨r, hr⟩ : ∃ r, r = d % 32768 := ⟨_, rfl⟩
      rw [← hr] at E5
      have a1 : (d : Int) % 32768 = (r : Int) := by omega
      have a2 : IntKind.u64.wrap (r : Int) = (r : Int) := wrap64 r (by omega)
      obtain ⟨hb, hhb⟩ : ∃ hb : Bool, hb = decide (32768 ≤ d) := ⟨_, rfl⟩
      have a3 : decide ((32768 : Int) ≤ (d : Int)) = hb := by rw [hhb]; congr 1; exact propext ⟨fun h => by omega, fun h => by omega⟩
      have HALL2 : Hid (sameTo (!hb) res y 16 = whole) := by rw [hhb]; exact hall
      have HE := Lib.hid E5
      clear E5 E4 E hk16 hr hhb hall HALL
      go_wp2_with (first
        | (with_reducible refine wpE_load (o := ⟨some 37, _, _, _, _, _⟩) rfl 88 (.tmp 4) rfl 0 g4 88 (natsC (y ++ [0])) _ (by with_unfolding_all rfl) (by with_unfolding_all rfl) Try.underlying88 rfl (sizeN Try.sz17 _ HY17.out) HE.out ?_)
        | ((with_reducible refine (LE.out _).mono ?_); rintro e w6 ⟨rfl, b6⟩; have E7 := HE.out.call b6)
        | ((with_reducible refine wpE_alloc (o := ⟨some 7, _, _, _, _, _⟩) rfl 51 rfl (natsC (zero16)) Try.zero16 E7 ?_); intro g7 w7 E8)
        | ((with_reducible refine wpE_store (o := ⟨none, _, _, _, _, _⟩) rfl 51 (.tmp 7) (.tmp 38) rfl 0 g7 51 (natsC (zero16)) (natsC (res)) (by with_unfolding_all rfl) (by with_unfolding_all rfl) (by with_unfolding_all rfl) (natsC_same zero16_length HRL.out) (sizeN Try.sz16 _ HRL.out) (natsC_one _) E8 ?_); intro w9 E9; simp only [List.set_cons_zero] at E9))
      have E10 := Lib.hid E9
      clear E7 E8 E9 HE c1 f1 a1 a2 a3 b1
      go_loopw [8, 9] (fun b i wr => ∃ k : Nat, k ≤ 16 ∧ i = .int .i64 k ∧ b = .bool (sameTo (!hb) res y k) ∧ Env w [(g7, 51, natsC res), (g4, 88, natsC (y ++ [0])), (g2, 51, natsC zero16), (g1, 23, keyC key)] wr) (fun _ i _ => 16 - (intOf i).toNat)
      case atStart => exact ⟨0, by omega, rfl, by simp [sameTo], E10.out⟩
      case round =>
        clear E10
        obtain ⟨j, hj, rfl, rfl, hE⟩ := hrel
        have E := Lib.hid hE
        clear hE
        by_cases hlt2 : j < 16
        · have c1 := E.out.getN 0 rfl j (by rw [HRL.out]; exact hlt2)
          have c2 := E.out.getN 1 rfl j (by rw [HY17.out]; omega)
          rw [with0_get y HYL.out j hlt2] at c2
          have hs : Hid (sameTo (!hb) res y (j + 1) = (sameTo (!hb) res y j && (res.getD j 0 == y.getD j 0))) := rfl
          generalize res.getD j 0 = x1 at c1 hs
          generalize y.getD j 0 = x2 at c2 hs
          generalize sameTo (!hb) res y j = bj at hs ⊢
          have hk5 : (j : Int) < 16 := by omega
          have hk6 : (j : Int) < 17 := by omega
          by_cases hx : x1 = x2
          · have t1 : ((x1 : Int) != (x2 : Int)) = false := by simp [hx]
            have hs2 : Hid (sameTo (!hb) res y (j + 1) = bj) := by show _ = _; rw [hs.out, hx, beq_self_eq_true, Bool.and_true]
            have E3 := Lib.hid E.out.drew
            clear hx hs E
            go_wp2_with fail
            go_still (by kernel_rfl)
            go_wp2
            go_roundw
            case rel => exact ⟨j + 1, by omega, by go_num, by rw [hs2.out], E3.out⟩
            case measure => simp [intOf]; omega
          · have t1 : ((x1 : Int) != (x2 : Int)) = true := by simp; omega
            have hs2 : Hid (sameTo (!hb) res y (j + 1) = false) := by show _ = _; rw [hs.out, beq_eq_false_iff_ne.2 hx, Bool.and_false]
            have E3 := Lib.hid E.out.drew
            clear hx hs E
            go_wp2_with fail
            go_still (by kernel_rfl)
            go_wp2
            go_roundw
            case rel => exact ⟨j + 1, by omega, by go_num, by rw [hs2.out], E3.out⟩
            case measure => simp [intOf]; omega
        · have hj16 : j = 16 := by omega
          have HS : Hid (sameTo (!hb) res y j = whole) := by show _ = _; rw [hj16]; exact HALL2.out
          clear hj16
          go_wp2_with (first
            | (with_reducible refine wpE_load (o := ⟨some 52, _, _, _, _, _⟩) rfl 51 (.tmp 7) rfl 0 g7 51 (natsC (res)) _ (by with_unfolding_all rfl) (by with_unfolding_all rfl) Try.underlying51 rfl (sizeN Try.sz16 _ HRL.out) E.out ?_)
            | ((with_reducible refine wpE_store (o := ⟨none, _, _, _, _, _⟩) rfl 51 (.tmp 2) (.tmp 52) rfl 2 g2 51 (natsC (zero16)) (natsC (res)) (by with_unfolding_all rfl) (by with_unfolding_all rfl) (by with_unfolding_all rfl) (natsC_same zero16_length HRL.out) (sizeN Try.sz16 _ HRL.out) (natsC_one _) E.out ?_); intro w12 E12; simp only [List.set_cons_zero, List.set_cons_succ] at E12))
          rw [HS.out]
          exact bodyPost_ret (ret_row_tmp rfl _ g2 51 (natsC (res)) _ rfl (E12.row 2 rfl) Try.underlying51 rfl (sizeN Try.sz16 _ HRL.out)) rfl (E12.ret _)
end Go.Proofs.Ytpgjcmccfpjmoaa
end
