/-
  Contract of the document's Key (layer 6). Conditions: none beyond what is named.
-/
import Derived.Test.YtejingggfbmbjaaFieldRefF
import Derived.Test.YtejingggfbmbjaaKeyEq
import Derived.Test.YtejingggfbmbjaaFieldL
namespace Go.Proofs.Ytejingggfbmbjaa
open Go.RowKit
set_option linter.unusedVariables false
set_option maxRecDepth 20000

theorem digR_get (a : Nat) : ∀ (n k : Nat), k < n → (digR n a).getD k 0 = a / Bx ^ k % Bx := by
  intro n
  induction n generalizing a with
  | zero => intro k h; omega
  | succ n ih =>
    intro k h
    cases k with
    | zero => simp [digR]
    | succ k =>
      rw [digR, List.getD_cons_succ, ih _ _ (by omega), Nat.div_div_eq_div_mul, Nat.pow_succ, Nat.mul_comm]
theorem low_byte (a k : Nat) (hk : k < 16) : (byteN a (2 * k)).toNat = (digR 16 a).getD k 0 % 256 := by
  rw [digR_get a 16 k hk, byteN_toNat, Nat.pow_mul]
  show a / 65536 ^ k % 256 = a / 65536 ^ k % 65536 % 256
  omega
theorem high_byte (a k : Nat) (hk : k < 16) : (byteN a (2 * k + 1)).toNat = (digR 16 a).getD k 0 / 256 := by
  rw [digR_get a 16 k hk, byteN_toNat, Nat.pow_succ, Nat.pow_mul, ← Nat.div_div_eq_div_mul]
  show a / 65536 ^ k / 256 % 256 = a / 65536 ^ k % 65536 / 256
  omega

set_option maxHeartbeats 2000000 in
theorem refKey_any (a : Nat) (w : World) : Calls Try.prog 17 #[.agg (natsC (digR 16 a))] w (RetV w (.agg (keyC (lowB a 32)))) := by
  have HL : Hid ((digR 16 a).length = 16) := digR_length 16 a
  have HLB : Hid (∀ k, k < 16 → (byteN a (2 * k)).toNat = (digR 16 a).getD k 0 % 256) := fun k hk => low_byte a k hk
  have HHB : Hid (∀ k, k < 16 → (byteN a (2 * k + 1)).toNat = (digR 16 a).getD k 0 / 256) := fun k hk => high_byte a k hk
  have HDB : Hid (∀ k, (digR 16 a).getD k 0 < 65536) := fun k => digD_lt a k
  have E0 := Env.start w
  go_enter Try.func17, Try.ntmps17
  go_wp2_with (first
    | ((with_reducible refine wpE_box (o := ⟨some 1, _, _, _, _, _⟩) rfl 33 (.tmp 0) rfl (natsC (digR 16 a)) (by with_unfolding_all rfl) E0 ?_); intro g1 w1 E1)
    | ((with_reducible refine wpE_alloc (o := ⟨some 2, _, _, _, _, _⟩) rfl 23 rfl (keyC (zeroKey)) Try.zeroK E1 ?_); intro g2 w2 E2)
    | ((with_reducible refine wpE_alloc (o := ⟨some 3, _, _, _, _, _⟩) rfl 23 rfl (keyC (zeroKey)) Try.zeroK E2 ?_); intro g3 w3 E3)
    | ((with_reducible refine wpE_store (o := ⟨none, _, _, _, _, _⟩) rfl 23 (.tmp 3) (.tmp 5) rfl 0 g3 23 (keyC (zeroKey)) (keyC (zeroKey)) (by with_unfolding_all rfl) (by with_unfolding_all rfl) (by with_unfolding_all exact congrArg Value.agg zeroLit) (keyC_same zeroKey_length zeroKey_length) (Try.sizeKey _ zeroKey_length) (keyC_one _) E3 ?_); intro w4 E4; simp only [List.set_cons_zero] at E4))
  have E5 := Lib.hid E4
  clear E0 E1 E2 E3 E4
  go_loopw [4] (fun i wr => ∃ k : Nat, k ≤ 16 ∧ i = .int .i64 k ∧ Env w [(g3, 23, keyC (fillB (lowB a (2 * k)) 32)), (g2, 23, keyC zeroKey), (g1, 33, natsC (digR 16 a))] wr) (fun i _ => 16 - (intOf i).toNat)
  case atStart => exact ⟨0, by omega, rfl, E5.out⟩
  case round =>
    clear E5
    obtain ⟨k, hk, rfl, hE⟩ := hrel
    have E := Lib.hid hE
    clear hE
    by_cases hlt : k < 16
    · have hfl : (fillB (lowB a (2 * k)) 32).length = 32 := fillB_length _ _ (by rw [lowB_length]; omega)
      have c1 := E.out.getN 2 rfl k (by rw [HL.out]; exact hlt)
      have hlb := HLB.out k hlt
      have hhb := HHB.out k hlt
      have hdb := HDB.out k
      have c2 := bytesC_cell (E.out.row 0 rfl) (2 * k) (by rw [hfl]; omega)
      generalize ((fillB (lowB a (2 * k)) 32)[2 * k]'(by rw [hfl]; omega)).toNat = old at c2
      have f2 := E.out.fzN 0 rfl (2 * k)
      have st1 := fillB_set (lowB a (2 * k)) 32 (byteN a (2 * k)) (by rw [lowB_length]; omega)
      rw [lowB_length, ← lowB_succ] at st1
      have E2 := E.out.cellTo 0 rfl (2 * k) (.int .u8 ((byteN a (2 * k)).toNat : Int)) (bytesC_put _ (2 * k) (byteN a (2 * k)))
      simp only [List.set_cons_zero] at E2
      rw [st1] at E2
      have c1b := E2.getN 2 rfl k (by rw [HL.out]; exact hlt)
      have hfl2 : (fillB (lowB a (2 * k + 1)) 32).length = 32 := fillB_length _ _ (by rw [lowB_length]; omega)
      have c3 := bytesC_cell (E2.row 0 rfl) (2 * k + 1) (by rw [hfl2]; omega)
      generalize ((fillB (lowB a (2 * k + 1)) 32)[2 * k + 1]'(by rw [hfl2]; omega)).toNat = old2 at c3
      have f3 := E2.fzN 0 rfl (2 * k + 1)
      have st2 := fillB_set (lowB a (2 * k + 1)) 32 (byteN a (2 * k + 1)) (by rw [lowB_length]; omega)
      rw [lowB_length, ← lowB_succ, show 2 * k + 1 + 1 = 2 * (k + 1) by omega] at st2
      have E3 := E2.cellTo 0 rfl (2 * k + 1) (.int .u8 ((byteN a (2 * k + 1)).toNat : Int)) (bytesC_put _ (2 * k + 1) (byteN a (2 * k + 1)))
      simp only [List.set_cons_zero] at E3
      rw [st2] at E3
      rw [hlb] at c1b c3 f3
      rw [hlb, hhb] at E3
      generalize (digR 16 a).getD k 0 = d at c1 hdb E3 c1b c3 f3
      obtain ⟨r, hr⟩ : ∃ r, r = d % 256 := ⟨_, rfl⟩
      obtain ⟨u, hu⟩ : ∃ r, r = d / 256 := ⟨_, rfl⟩
      rw [← hr, ← hu] at E3
      rw [← hr] at c1b c3 f3
      have d1 : (d : Int) % 256 = (r : Int) := by omega
      have d2 : (d : Int) / 256 = (u : Int) := by omega
      have v1 : IntKind.u8.wrap (r : Int) = (r : Int) := by rw [IntKind.wrap_u8]; omega
      have v2 : IntKind.u8.wrap (u : Int) = (u : Int) := by rw [IntKind.wrap_u8]; omega
      have v3 : IntKind.u64.wrap (u : Int) = (u : Int) := wrap64 u (by omega)
      have HE := Lib.hid E3
      have hw1 : IntKind.i64.wrap (2 * (k : Int)) = 2 * (k : Int) := IntWalk.i64_in _ (by omega)
      have hw2 : IntKind.i64.wrap (2 * (k : Int) + 1) = 2 * (k : Int) + 1 := IntWalk.i64_in _ (by omega)
      have hq1 : (2 * (k : Int)).toNat = 2 * k := by omega
      have hq2 : (2 * (k : Int) + 1).toNat = 2 * k + 1 := by omega
      have hq3 : 2 * (k : Int) < 32 := by omega
      have hq4 : 2 * (k : Int) + 1 < 32 := by omega
      have hq5 : (k : Int) < 16 := by omega
      have hq6 : 0 ≤ 2 * (k : Int) + 1 := by omega
      have hq7 : 0 ≤ 2 * (k : Int) := by omega
      clear hr hu hlb hhb st1 st2 E2 E3 E hfl hfl2
      go_wp2
      go_roundw
      case rel => exact ⟨k + 1, by omega, by go_num, HE.out⟩
      case measure => simp [intOf]; omega
    · have hk16 : k = 16 := by omega
      have E2 := E.out
      rw [hk16, fillB_all _ _ (lowB_length a 32)] at E2
      have HE := Lib.hid E2
      clear E2 E hk16
      go_wp2_with (first
        | (with_reducible refine wpE_load (o := ⟨some 27, _, _, _, _, _⟩) rfl 23 (.tmp 3) rfl 0 g3 23 (keyC (lowB a 32)) _ (by with_unfolding_all rfl) (by with_unfolding_all rfl) Try.underlying23 rfl (Try.sizeKey _ (lowB_length a 32)) HE.out ?_)
        | ((with_reducible refine wpE_store (o := ⟨none, _, _, _, _, _⟩) rfl 23 (.tmp 2) (.tmp 27) rfl 1 g2 23 (keyC (zeroKey)) (keyC (lowB a 32)) (by with_unfolding_all rfl) (by with_unfolding_all rfl) (by with_unfolding_all rfl) (keyC_same zeroKey_length (lowB_length a 32)) (Try.sizeKey _ (lowB_length a 32)) (keyC_one _) HE.out ?_); intro w9 E9; simp only [List.set_cons_zero, List.set_cons_succ] at E9))
      exact bodyPost_ret (results_cell_row rfl _ _ g2 23 (keyC (lowB a 32)) (0, 0) _ rfl (E9.row 1 rfl) Try.underlying23 rfl (Try.sizeKey _ (lowB_length a 32))) rfl (E9.ret _)
end Go.Proofs.Ytejingggfbmbjaa
