/-
  Contract of sha.Pad: what stands behind n bytes. Conditions: as each theorem names them.
-/
import Derived.Test.YtdojaighchgghaaDoorShaC
import Derived.Test.YtdojaighchgghaaDoorC
namespace Go.Proofs.YtdojaighchgghaaDoor
open Go.RowKit
set_option linter.unusedVariables false
set_option maxRecDepth 20000

theorem Pad_neg (w : World) (n : Int) (h : n < 0) :
    Calls Tryd.prog 16 #[.int .i64 n] w (RetBs w []) := by
  have hd : decide (n < 0) = true := by simp; omega
  go_enter Tryd.func16, Tryd.ntmps16
  go_wp2
  go_ret
  exact ⟨_, rfl, Bs.nil _, Below.refl _ _⟩

theorem pad_spliced (n z m y p : Nat) (hz : (119 - n % 64) % 64 = z) (hm : m = z + 9) (hy : y = z + 1) (hp : p = 8 * n % 18446744073709551616) :
    ((List.replicate m (0 : UInt8)).set 0 128).take y ++ (lowB p 8).reverse ++ ((List.replicate m (0 : UInt8)).set 0 128).drop (y + (lowB p 8).reverse.length) = padB n := by
  subst hm hy
  rw [List.drop_of_length_le (by simp [lowB_length]), padB, hz, ← hp, show z + 9 = (z + 8) + 1 by omega, List.replicate_succ, List.set_cons_zero, List.take_succ_cons, List.take_replicate, Nat.min_eq_left (by omega)]
  simp

theorem eight_mul (n : Nat) (hn : n ≤ 9223372036854775807) : IntKind.u64.wrap (8 * IntKind.u64.wrap (n : Int)) = ((8 * n % 18446744073709551616 : Nat) : Int) := by
  rw [IntKind.wrap_u64, IntKind.wrap_u64]
  omega

set_option maxHeartbeats 1000000 in
theorem Pad_any (w : World) (n : Nat) (hn : n ≤ 9223372036854775807) :
    Calls Tryd.prog 16 #[.int .i64 (n : Int)] w (RetBs w (padB n)) := by
  obtain ⟨i0, hi, hz0, hz1, hz2⟩ := info_parts Tryd.infoB
  have hd : decide ((n : Int) < 0) = false := by simp
  obtain ⟨z, hz⟩ : ∃ z, (119 - n % 64) % 64 = z := ⟨_, rfl⟩
  have hzlt : z < 64 := by omega
  obtain ⟨m, hm⟩ : ∃ m, m = z + 9 := ⟨_, rfl⟩
  have e1 : (119 - (n : Int)) % 64 = (z : Int) := by omega
  have e2 : (119 - (n : Int) % 64) % 64 = (z : Int) := by omega
  have e3 : 1 + (z : Int) + 8 = (m : Int) := by omega
  have e4 : (z : Int) + 9 = (m : Int) := by omega
  obtain ⟨p, hp⟩ : ∃ p, p = 8 * n % 18446744073709551616 := ⟨_, rfl⟩
  have hplt : p < 18446744073709551616 := by omega
  have e5 := eight_mul n hn
  rw [← hp] at e5
  have HZ := Lib.hid hz
  have HM := Lib.hid hm
  have HP := Lib.hid hp
  have hmlt : m < 73 := by omega
  have e6 : 1 + (z : Int) ≤ (m : Int) := by omega
  clear hz hm hp
  go_enter Tryd.func16, Tryd.ntmps16
  go_wp2_with (with_reducible refine wpList_make_full (o := ⟨some 14, _, _, _, _, _⟩) _ rfl (.tmp 13) (.tmp 13) 27 rfl w.heap.size 5 i0 (.int .u8 0) 1 Tryd.underlying27 hi hz0 hz1 .i64 .i64 _ _ m (by with_unfolding_all rfl) (by with_unfolding_all rfl) (by omega) (by omega) (by rw [hz2]; omega) (by unfold maxLen; omega) (Nat.le_refl _) ?_; intro w1 hown hgrow; rw [made_zeros] at hown; have hc := own_cell hown 0 (by simp; omega); have hf := hown.frozenAt 0)
  have hB1 : Below w.heap.size w w1 := (Below.refl _ _).grown hgrow (Nat.le_refl _) (fun k e => by cases e)
  have hB2 := hB1.setCell (p := ⟨w.heap.size, 0, none⟩) (Nat.le_refl _) (.int .u8 128)
  have hrow := (own_row hown).put 0 (.int .u8 ((128 : UInt8).toNat : Int))
  rw [bytesC_put] at hrow
  change RowAt (w1.setCell ⟨w.heap.size, 0, none⟩ (.int .u8 128)) _ _ _ at hrow
  clear hown hgrow hc hf hB1
  generalize w1.setCell ⟨w.heap.size, 0, none⟩ (.int .u8 128) = w2 at hrow hB2 ⊢
  obtain ⟨y, hy⟩ : ∃ y, y = z + 1 := ⟨_, rfl⟩
  have hne : ¬ m = y := by have := HM.out; omega
  have hyl : (y : Int) ≤ (m : Int) := by have := HM.out; omega
  have e8 : IntKind.i64.wrap (1 + (z : Int)) = (y : Int) := by rw [IntWalk.i64_in _ (by omega)]; omega
  have HY := Lib.hid hy
  clear hy
  have HR := Lib.hid hrow
  have HB := Lib.hid hB2
  have hsz := hB2.size
  clear hrow hB2
  go_region_law (first
    | (go_simp; go_at_call 41; refine (High_in _ p 8 hplt (by omega) (by omega)).mono ?_; rintro e w3 ⟨_, rfl, hbs, b3⟩; have HS := Lib.hid hbs; obtain ⟨A, c, rfl, h1, h2, h3⟩ := hbs; clear h1 h2 h3)
    | (refine step_copy_splice rfl (.tmp 20) (.tmp 24) 27 27 rfl 5 Tryd.underlying27 Tryd.sizeB (some ⟨w.heap.size, y, none⟩) A (m - y) (m - y) (lowB p 8).reverse.length c rfl rfl w.heap.size y (cellsB ((List.replicate m 0).set 0 128)) 5 (HR.out.drew.kept b3) (cellsB (lowB p 8).reverse) (by rw [cellsB_length, List.length_reverse, lowB_length, HM.out, HY.out]; show 8 = min 8 _; omega) (copy_from HS.out) (by rw [cellsB_length, cellsB_length, List.length_reverse, lowB_length, List.length_set, List.length_replicate, HM.out, HY.out]; omega) (cellsB_one _) w.heap.size w (below_size HB.out.drew b3) (Nat.le_refl _) ?_; intro w4 hr4 hb4))
  have hr5 := hr4.out
  rw [splice_bytes, pad_spliced n z m y p HZ.out HM.out HY.out HP.out] at hr5
  have HR5 : Hid (RowAt w4 w.heap.size 5 (keyC (padB n))) := hr5
  clear hr5 hr4
  have HL : Hid (m = (padB n).length) := by
    show m = _
    rw [padB_length, HZ.out, HM.out]
    omega
  have HB4 := Lib.hid hb4
  clear hb4
  go_wp2
  go_ret
  refine ⟨_, rfl, ?_, HB4.out⟩
  rw [HL.out]
  exact row_bs HR5.out (by rw [← HL.out]; unfold maxLen; omega)
end Go.Proofs.YtdojaighchgghaaDoor
