/-
  Contracts of the ladder's Clamp, isSet. Conditions: a key has thirty-two bytes; the bit is below 255.
-/
import Derived.Test.YtpgjcmccfpjmoaaLadderB
namespace Go.Proofs.Ytpgjcmccfpjmoaa
open Go.RowKit
set_option linter.unusedVariables false
set_option maxRecDepth 20000

theorem keyC_at {w : World} {g : Nat} {t : TypeId} {l : List UInt8} (h : RowAt w g t (keyC l)) (i : Nat) {x : UInt8} (hx : l[i]? = some x) : w.cell? ⟨g, i, none⟩ = some (.int .u8 (x.toNat : Int)) := by
  obtain ⟨hi, rfl⟩ := List.getElem?_eq_some_iff.1 hx
  exact keyC_cell h i hi
/-- A secret, clamped. -/
def clampK (l : List UInt8) : List UInt8 := (l.set 0 (l.getD 0 0 &&& 248)).set 31 ((l.getD 31 0 &&& 127) ||| 64)
theorem clampK_length (l : List UInt8) (h : l.length = 32) : (clampK l).length = 32 := by simp [clampK, h]
theorem u8_low (x : UInt8) : bits .andNot .u8 (x.toNat : Int) 7 = ((x &&& 248).toNat : Int) := by
  have h := u8_andNot_nat x.toNat 7 x.toNat_lt (by omega)
  rw [show ((7 : Nat) : Int) = 7 from rfl] at h
  rw [h, UInt8.toNat_and]
  rfl
theorem u8_high (x : UInt8) : bits .andNot .u8 (x.toNat : Int) 128 = ((x &&& 127).toNat : Int) := by
  have h := u8_andNot_nat x.toNat 128 x.toNat_lt (by omega)
  rw [show ((128 : Nat) : Int) = 128 from rfl] at h
  rw [h, UInt8.toNat_and]
  rfl
theorem u8_second (x : UInt8) : bits .or .u8 (x.toNat : Int) 64 = ((x ||| 64).toNat : Int) := by
  have h := u8_or_nat x.toNat 64 x.toNat_lt (by omega)
  rw [show ((64 : Nat) : Int) = 64 from rfl] at h
  rw [h, UInt8.toNat_or]
  rfl
set_option maxHeartbeats 2000000 in
theorem Clamp_any (l : List UInt8) (hl : l.length = 32) (w : World) : Calls Try.prog 10 #[.agg (keyC l)] w (RetV w (.agg (keyC (clampK l)))) := by
  obtain ⟨x, hx⟩ : ∃ x, x = l.getD 0 0 := ⟨_, rfl⟩
  obtain ⟨y, hy⟩ : ∃ y, y = l.getD 31 0 := ⟨_, rfl⟩
  obtain ⟨x', hx'⟩ : ∃ z, z = x &&& 248 := ⟨_, rfl⟩
  obtain ⟨y', hy'⟩ : ∃ z, z = y &&& 127 := ⟨_, rfl⟩
  obtain ⟨z, hz⟩ : ∃ u, u = y' ||| 64 := ⟨_, rfl⟩
  have b1 := u8_low x
  have b2 := u8_high y
  have b3 := u8_second y'
  rw [← hx'] at b1
  rw [← hy'] at b2
  rw [← hz] at b3
  have HL := Lib.hid hl
  have g0 : Hid (l[0]? = some x) := by show _ = _; rw [hx]; simp [hl]
  have g31 : Hid ((l.set 0 x')[31]? = some y) := by show _ = _; rw [hy]; simp [hl]
  have g32 : Hid (((l.set 0 x').set 31 y')[31]? = some y') := by show _ = _; simp [hl]
  have hfin : Hid (clampK l = ((l.set 0 x').set 31 y').set 31 z) := by show _ = _; rw [clampK, List.set_set, ← hx, ← hy, ← hx', ← hy', ← hz]
  clear hx hy hx' hy' hz hl
  have E0 := Lib.hid (Env.start w)
  go_enter Try.func10, Try.ntmps10
  go_wp2_with (first
    | ((with_reducible refine wpE_box (o := ⟨some 1, _, _, _, _, _⟩) rfl 23 (.tmp 0) rfl (keyC l) (by with_unfolding_all rfl) E0.out ?_); intro g1 w1 T1; have E1 := Lib.hid T1; clear T1)
    | ((with_reducible refine wpE_alloc (o := ⟨some 2, _, _, _, _, _⟩) rfl 23 rfl (keyC zeroKey) Try.zeroK E1.out ?_); intro g2 w2 T2; have c0 := keyC_at (T2.row 1 rfl) 0 g0.out; have f0 := T2.fzN 1 rfl 0; have T3 := T2.cellTo 1 rfl 0 (.int .u8 (x'.toNat : Int)) (keyC_put l 0 x'); simp only [List.set_cons_zero, List.set_cons_succ] at T3; have c1 := keyC_at (T3.row 1 rfl) 31 g31.out; have f1 := T3.fzN 1 rfl 31; have T4 := T3.cellTo 1 rfl 31 (.int .u8 (y'.toNat : Int)) (keyC_put _ 31 y'); simp only [List.set_cons_zero, List.set_cons_succ] at T4; have c2 := keyC_at (T4.row 1 rfl) 31 g32.out; have f2 := T4.fzN 1 rfl 31; have T5 := T4.cellTo 1 rfl 31 (.int .u8 (z.toNat : Int)) (keyC_put _ 31 z); simp only [List.set_cons_zero, List.set_cons_succ] at T5; rw [← hfin.out] at T5; have E2 := Lib.hid T5; clear T2 T3 T4 T5)
    | (with_reducible refine wpE_load (o := ⟨some 15, _, _, _, _, _⟩) rfl 23 (.tmp 1) rfl 1 g1 23 (keyC (clampK l)) _ (by with_unfolding_all rfl) (by with_unfolding_all rfl) Try.underlying23 rfl (Try.sizeKey _ (clampK_length l HL.out)) E2.out ?_)
    | ((with_reducible refine wpE_store (o := ⟨none, _, _, _, _, _⟩) rfl 23 (.tmp 2) (.tmp 15) rfl 0 g2 23 (keyC zeroKey) (keyC (clampK l)) (by with_unfolding_all rfl) (by with_unfolding_all rfl) (by with_unfolding_all rfl) (keyC_same zeroKey_length (clampK_length l HL.out)) (Try.sizeKey _ (clampK_length l HL.out)) (keyC_one _) E2.out ?_); intro w9 T9; simp only [List.set_cons_zero] at T9; have E9 := Lib.hid T9; clear T9))
  exact bodyPost_ret (results_cell_row rfl _ _ g2 23 (keyC (clampK l)) (0, 0) _ rfl (E9.out.row 0 rfl) Try.underlying23 rfl (Try.sizeKey _ (clampK_length l HL.out))) rfl (E9.out.ret _)
theorem bit_and (x : UInt8) (r : Nat) : (bits .and .u8 ((x.toNat : Int) / 2 ^ r) 1 == 1) = (x.toNat / 2 ^ r % 2 == 1) := by
  have h1 : x.toNat / 2 ^ r < 256 := Nat.lt_of_le_of_lt (Nat.div_le_self _ _) x.toNat_lt
  have h := u8_and_nat (x.toNat / 2 ^ r) 1 h1 (by omega)
  have e : ((x.toNat / 2 ^ r : Nat) : Int) = (x.toNat : Int) / 2 ^ r := by simp
  rw [e, show ((1 : Nat) : Int) = 1 from rfl] at h
  rw [h, Nat.and_one_is_mod, Bool.eq_iff_iff, beq_iff_eq, beq_iff_eq]
  omega
/-- A bit of a key, the lowest one first. -/
def bitK (l : List UInt8) (i : Nat) : Bool := (l.getD (i / 8) 0).toNat / 2 ^ (i % 8) % 2 == 1
set_option maxHeartbeats 2000000 in
theorem isSet_any (l : List UInt8) (hl : l.length = 32) (i : Nat) (hi : i < 256) (w : World) : Calls Try.prog 39 #[.agg (keyC l), .int .i64 (i : Int)] w (RetV w (.bool (bitK l i))) := by
  obtain ⟨q, hq⟩ : ∃ q, q = i / 8 := ⟨_, rfl⟩
  obtain ⟨r, hr⟩ : ∃ r, r = i % 8 := ⟨_, rfl⟩
  obtain ⟨x, hx⟩ : ∃ x, x = l.getD q 0 := ⟨_, rfl⟩
  have hq32 : q < 32 := by omega
  have hr8 : r < 8 := by omega
  have t1 : (i : Int) / 8 = (q : Int) := by omega
  have t2 : (i : Int) % 8 = (r : Int) := by omega
  have HL := Lib.hid hl
  have g0 : Hid (l[q]? = some x) := by show _ = _; rw [hx]; simp [hl, hq32]
  have hb : bitK l i = (x.toNat / 2 ^ r % 2 == 1) := by unfold bitK; rw [← hq, ← hr, ← hx]
  rw [hb]
  have HQ := Lib.hid hq32
  clear hb hx hq hr hl
  have E0 := Lib.hid (Env.start w)
  go_enter Try.func39, Try.ntmps39
  go_wp2_with (first
    | ((with_reducible refine wpE_box (o := ⟨some 2, _, _, _, _, _⟩) rfl 23 (.tmp 0) rfl (keyC l) (by with_unfolding_all rfl) E0.out ?_); intro g1 w1 T1; have c0 := keyC_at (T1.row 0 rfl) q g0.out; have E1 := Lib.hid T1; clear T1))
  go_ret
  refine ⟨?_, E1.out.below⟩
  show Ending.returned (.bool (bits .and .u8 ((x.toNat : Int) / 2 ^ r) 1 == 1)) = _
  rw [bit_and x r]
end Go.Proofs.Ytpgjcmccfpjmoaa
