/-
  Texts that belong together, merged: ShaA, D, ShaB, ShaC, TrlLaid, Tail. Conditions: as each theorem names them.
-/
import Derived.Test.YtlifjlcfoeednaaDoorChecked
import Derived.Test.YtlifjlcfoeednaaDoorQTrlAA
import Derived.StillTactics
import Derived.Test.YtlifjlcfoeednaaDoorCards
import Derived.Test.YtlifjlcfoeednaaDoorTie
import Derived.ProofKit
import Derived.ShutString
import Derived.Lib.LaidTab
import Derived.Stop.LaidErr
import Derived.StillTail
import Derived.Deep.Quiet
import Derived.Deep.QuietTactic
section
namespace Go.Proofs.YtlifjlcfoeednaaDoor
open Go.RowKit
set_option linter.unusedVariables false

theorem low5 (n : Nat) (h1 : 1 ≤ n) (h2 : n ≤ 31) : (18446744073709551616 - n) &&& 31 = 32 - n := by
  rw [show (31 : Nat) = 2 ^ 5 - 1 from rfl, Nat.and_two_pow_sub_one_eq_mod]
  omega

theorem low5_int (n m : Nat) (h1 : 1 ≤ n) (h2 : n ≤ 31) (hm : m + n = 32) : bits .and .u64 (IntKind.u64.wrap (-(n : Int))) 31 = (m : Int) := by
  have e : IntKind.u64.wrap (-(n : Int)) = ((18446744073709551616 - n : Nat) : Int) := by
    rw [IntKind.wrap_u64]
    omega
  rw [e]
  have := u64_and_nat (18446744073709551616 - n) 31 (by omega) (by omega)
  rw [show ((31 : Nat) : Int) = 31 from rfl] at this
  rw [this, low5 n h1 h2]
  omega

theorem rot_int (x : UInt32) (n m : Nat) (hm : m + n = 32) : bits .or .u32 ((x.toNat : Int) * 2 ^ m % 4294967296) ((x.toNat : Int) / 2 ^ n) = ((rotr x n).toNat : Int) := by
  have e1 : (x.toNat : Int) * 2 ^ m % 4294967296 = ((x.toNat * 2 ^ m % 4294967296 : Nat) : Int) := by simp
  have e2 : (x.toNat : Int) / 2 ^ n = ((x.toNat / 2 ^ n : Nat) : Int) := by simp
  rw [e1, e2, u32_or_nat _ _ (Nat.mod_lt _ (by omega)) (div_lt32 x n), rotr_toNat, show 32 - n = m by omega]
theorem movr_int (x : UInt32) (n : Nat) : ((movr x n).toNat : Int) = (x.toNat : Int) / 2 ^ n := by
  rw [movr_toNat]; simp

theorem Rot_any (w : World) (x : UInt32) (n : Nat) (h1 : 1 ≤ n) (h2 : n ≤ 31) :
    Calls Tryd.prog 54 #[.int .u32 (x.toNat : Int), .int .i64 (-(n : Int))] w fun e w' => e = .returned (.int .u32 ((rotr x n).toNat : Int)) ∧ w = w' := by
  have hx := x.toNat_lt
  obtain ⟨m, hm⟩ : ∃ m, m + n = 32 := ⟨32 - n, by omega⟩
  have hs := low5_int n m h1 h2 hm
  have hs2 : IntKind.u64.wrap (32 - (m : Int)) = (n : Int) := by rw [IntKind.wrap_u64]; omega
  go_enter Tryd.func54, Tryd.ntmps54
  go_wp2
  go_ret
  exact ⟨ret_int (rot_int x n m hm), rfl⟩

theorem turned_any (w : World) (x : UInt32) (a b c : Nat) (ha : 1 ≤ a ∧ a ≤ 31) (hb : 1 ≤ b ∧ b ≤ 31) (hc : 1 ≤ c ∧ c ≤ 31) :
    Calls Tryd.prog 47 #[.int .u32 (x.toNat : Int), .int .i64 (a : Int), .int .i64 (b : Int), .int .i64 (c : Int)] w fun e w' => e = .returned (.int .u32 ((bigS x a b c).toNat : Int)) ∧ w = w' := by
  go_enter Tryd.func47, Tryd.ntmps47
  go_wp2_with fail
  refine (Rot_any _ x a ha.1 ha.2).mono ?_
  rintro e w' ⟨rfl, rfl⟩
  go_wp2_with fail
  refine (Rot_any _ x b hb.1 hb.2).mono ?_
  rintro e w' ⟨rfl, rfl⟩
  go_wp2_with fail
  refine (Rot_any _ x c hc.1 hc.2).mono ?_
  rintro e w' ⟨rfl, rfl⟩
  go_wp2
  go_ret
  exact ⟨ret_int (by rw [xor32, xor32]; rfl), rfl⟩

theorem moved_any (w : World) (x : UInt32) (a b c : Nat) (ha : 1 ≤ a ∧ a ≤ 31) (hb : 1 ≤ b ∧ b ≤ 31) (hc : 1 ≤ c ∧ c ≤ 31) :
    Calls Tryd.prog 53 #[.int .u32 (x.toNat : Int), .int .i64 (a : Int), .int .i64 (b : Int), .int .i64 (c : Int)] w fun e w' => e = .returned (.int .u32 ((smallS x a b c).toNat : Int)) ∧ w = w' := by
  have hx := x.toNat_lt
  go_enter Tryd.func53, Tryd.ntmps53
  go_wp2_with fail
  refine (Rot_any _ x a ha.1 ha.2).mono ?_
  rintro e w' ⟨rfl, rfl⟩
  go_wp2_with fail
  refine (Rot_any _ x b hb.1 hb.2).mono ?_
  rintro e w' ⟨rfl, rfl⟩
  go_wp2
  go_ret
  exact ⟨ret_int (by rw [xor32, ← movr_int, xor32]; rfl), rfl⟩
end Go.Proofs.YtlifjlcfoeednaaDoor
end
section
namespace Go.Proofs.YtlifjlcfoeednaaDoor
open Go.RowKit
set_option linter.unusedVariables false
set_option maxRecDepth 20000

theorem take8 (l : List UInt8) (k : Nat) (hk : k ≤ l.length) (h8 : k ≤ 8) (h : ¬ (k < 8 ∧ k < l.length)) : l.take 8 = l.take k := by
  by_cases h1 : k = 8
  · rw [h1]
  · rw [List.take_of_length_le (by omega), List.take_of_length_le (by omega)]

theorem mul256_lt (k b : Nat) (hk : k < 8) (hb : b < 256) : 256 ^ k * b < 18446744073709551616 := by
  have h1 : 256 ^ k * b < 256 ^ k * 256 := Nat.mul_lt_mul_of_pos_left hb (Nat.pow_pos (by omega))
  have h2 := pow256_le (k + 1) (by omega)
  rw [Nat.pow_succ] at h2
  omega

theorem or_low (k q b : Nat) (hk : k < 8) (hq : q < 256 ^ k) (hb : b < 256) :
    bits .or .u64 (q : Int) (IntKind.u64.wrap ((b : Int) * 2 ^ (8 * k))) = ((q + 256 ^ k * b : Nat) : Int) := by
  have hv : ((b : Int) * 2 ^ (8 * k)) = ((256 ^ k * b : Nat) : Int) := by
    have h : (2 : Int) ^ (8 * k) = ((256 ^ k : Nat) : Int) := by
      rw [show (256 : Nat) = 2 ^ 8 from rfl, ← Nat.pow_mul]
      simp
    rw [h, Int.natCast_mul, Int.mul_comm]
  have hlt := mul256_lt k b hk hb
  have hw : IntKind.u64.wrap ((256 ^ k * b : Nat) : Int) = ((256 ^ k * b : Nat) : Int) := by
    rw [IntKind.wrap_u64]; omega
  have hq2 : q < 18446744073709551616 := Nat.lt_of_lt_of_le hq (pow256_le k (by omega))
  rw [hv, hw, u64_or_nat _ _ hq2 hlt]
  have e : 256 ^ k = 2 ^ (8 * k) := by rw [show (256 : Nat) = 2 ^ 8 from rfl, ← Nat.pow_mul]
  have := Nat.two_pow_add_eq_or_of_lt (b := q) (i := 8 * k) (by rw [← e]; exact hq) b
  rw [Nat.or_comm, e, ← this, Nat.add_comm]

theorem or_high (k q b : Nat) (hk : k < 8) (hq : q < 256 ^ k) (hb : b < 256) :
    bits .or .u64 (IntKind.u64.wrap ((q : Int) * 256)) (b : Int) = ((q * 256 + b : Nat) : Int) := by
  have h2 := pow256_le (k + 1) (by omega)
  rw [Nat.pow_succ] at h2
  have hw : IntKind.u64.wrap ((q : Int) * 256) = ((2 ^ 8 * q : Nat) : Int) := by
    rw [IntKind.wrap_u64]; omega
  have := Nat.two_pow_add_eq_or_of_lt (b := b) (i := 8) hb q
  rw [hw, u64_or_nat _ _ (by omega) (by omega), ← this]
  omega


set_option maxHeartbeats 400000 in
theorem OfHigh_any (w : World) (v : Value) (l : List UInt8) (h : Bs w v l) :
    Calls Tryd.prog 52 #[v] w fun e w' => e = .returned (.int .u64 (ofHighB (l.take 8) : Int)) ∧ w = w' := by
  obtain ⟨A, c, rfl, h1, h2, h3⟩ := h
  unfold maxLen at h2
  by_cases h8 : 8 < l.length
  all_goals
    go_enter Tryd.func52, Tryd.ntmps52
    go_wp2
    go_loop [3, 8] (fun n i => ∃ k q : Nat, k ≤ 8 ∧ k ≤ l.length ∧ i = .int .i64 k ∧ q = ofHighB (l.take k) ∧ n = .int .u64 (q : Int)) (fun _ i => 8 - (intOf i).toNat)
    case atStart => exact ⟨0, 0, by omega, Nat.zero_le _, rfl, by simp [ofHighB, ofLowB], rfl⟩
    case round =>
      obtain ⟨k, q, hk, hk2, rfl, hq, rfl⟩ := hrel
      have hql : q < 256 ^ k := by
        have := ofHighB_lt (l.take k); rw [← hq, List.length_take_of_le (by omega)] at this; exact this
      have hq64 : q < 18446744073709551616 := Nat.lt_of_lt_of_le hql (pow256_le k (by omega))
      have HQ := Lib.hid hq
      have HQL := Lib.hid hql
      clear hq hql
      by_cases hlt : k < 8 ∧ k < l.length
      · obtain ⟨hlt1, hlt2⟩ := hlt
        obtain ⟨b0, o0, rfl, hc⟩ := h3 (by omega)
        have hcell := hc k (by omega)
        have hb := l[k].toNat_lt
        clear hc
        go_wp2
        go_round
        case rel => 
          refine ⟨k + 1, ofHighB (l.take (k + 1)), by omega, by omega, by go_num, rfl, ?_⟩
          rw [or_high k q _ hlt1 HQL.out hb, List.take_succ_eq_append_getElem hlt2, ofHighB_snoc, HQ.out]
        case measure => simp [intOf]; omega
      · have hfin := take8 l k hk2 hk hlt
        have HF := Lib.hid hfin
        clear hfin
        go_wp2
        go_ret
        exact ⟨ret_int (by rw [HF.out, HQ.out]), rfl⟩


end Go.Proofs.YtlifjlcfoeednaaDoor
end
section
namespace Go.Proofs.YtlifjlcfoeednaaDoor
open Go.RowKit
set_option linter.unusedVariables false

/-- The first k words, and zeros behind them. -/
def partW (block : List UInt8) (k : Nat) : List UInt32 := wordsTo block k ++ List.replicate (64 - k) 0
theorem partW_length (block : List UInt8) (k : Nat) (h : k ≤ 64) : (partW block k).length = 64 := by simp [partW, wordsTo_length]; omega
theorem partW_step (block : List UInt8) (k : Nat) (h : k < 64) : (partW block k).set k (if k < 16 then wordOf block k else nextW (wordsTo block k) k) = partW block (k + 1) := by
  unfold partW
  rw [List.set_append_right _ _ (by rw [wordsTo_length]; exact Nat.le_refl _), wordsTo_length, Nat.sub_self, wordsTo, List.append_assoc]
  congr 1
  have e2 : 64 - k = (64 - (k + 1)) + 1 := by omega
  rw [e2, List.replicate_succ]
  simp
theorem partW_get (block : List UInt8) (k j : Nat) (h : j < k) : (partW block k).getD j 0 = (wordsTo block k).getD j 0 := by
  unfold partW
  simp only [List.getD_eq_getElem?_getD]
  rw [List.getElem?_append_left (by rw [wordsTo_length]; exact h)]

theorem Tryd.zero64 : (Tryd.prog.info? 99).map (·.zero) = some (some (.agg (wordsC (List.replicate 64 0)))) := by kernel_rfl
theorem Tryd.size64 : (Tryd.prog.info? 99).map (·.size) = some 64 := by kernel_rfl
theorem Tryd.size64l (l : List UInt32) (h : l.length = 64) : (Tryd.prog.info? 99).map (·.size) = some (wordsC l).size := by rw [wordsC_size, h]; exact Tryd.size64

set_option maxHeartbeats 1000000 in
set_option maxRecDepth 20000 in
theorem spread_any (w : World) (block : List UInt8) (hl : block.length = 64) :
    Calls Tryd.prog 46 #[keyV block] w (RetV w (.agg (wordsC (wordsTo block 64)))) := by
  obtain ⟨fin, hfin⟩ : ∃ fin, fin = wordsC (wordsTo block 64) := ⟨_, rfl⟩
  rw [← hfin]
  have HF := Lib.hid hfin
  have HL := Lib.hid hl
  clear hfin hl
  go_enter Tryd.func46, Tryd.ntmps46
  go_wp2_with (first | ((with_reducible refine wpList_box_row (o := ⟨some 1, _, _, _, _, _⟩) rfl 96 (.tmp 0) rfl (keyC block) (by with_unfolding_all rfl) ?_); intro g1 w1 n1) | ((with_reducible refine wpList_alloc_row (o := ⟨some 2, _, _, _, _, _⟩) rfl 99 rfl (wordsC (List.replicate 64 0)) Tryd.zero64 ?_); intro g2 w2 n2) | ((with_reducible refine wpList_alloc_row (o := ⟨some 3, _, _, _, _, _⟩) rfl 99 rfl (wordsC (List.replicate 64 0)) Tryd.zero64 ?_); intro g3 w3 n3))
  have hr1 : RowAt w3 g1 96 (keyC block) := (n1.row.kept n2.below).kept n3.below
  have hg3 : w2.heap.size ≤ g3 := Nat.le_of_eq n3.spot.symm
  have hr3 : RowAt w3 g3 99 (wordsC (partW block 0)) := n3.row
  have hlt1 : g1 < w2.heap.size := Nat.lt_of_lt_of_le n1.row.lt n2.below.size
  go_loopw [6] (fun i wr => ∃ k : Nat, k ≤ 16 ∧ i = .int .i64 k ∧ RowAt wr g3 99 (wordsC (partW block k)) ∧ RowAt wr g1 96 (keyC block) ∧ Below w2.heap.size w2 wr) (fun i _ => 16 - (intOf i).toNat)
  case atStart => exact ⟨0, Nat.zero_le _, rfl, hr3, hr1, n3.below⟩
  case round =>
    obtain ⟨k, hk, rfl, hr, hrb, hb⟩ := hrel
    clear hr3 hr1
    have HR := Lib.hid hr
    have HRB := Lib.hid hrb
    have HB := Lib.hid hb
    have N1 := Lib.hid n1
    have N2 := Lib.hid n2
    have N3 := Lib.hid n3
    clear hr hrb hb n1 n2 n3
    by_cases hlt : k < 16
    · have hsl := fun x : World => run_sliceArr (P := Tryd.prog) x 96 5 64 Tryd.underlying96 Tryd.sizeB g1 0 (4 * k) (4 * k + 4) (4 * (k : Int)) (4 * ((k : Int) + 1)) (by omega) (by omega) (by omega) (by omega) (by omega)
      rw [Nat.zero_add, show 4 * k + 4 - 4 * k = 4 by omega] at hsl
      have hcell := wordsC_cell HR.out k (by rw [partW_length _ _ (by omega)]; omega)
      have hfz := HR.out.frozen k
      have hv := ofHighB_lt ((block.drop (4 * k)).take 4)
      rw [show ((block.drop (4 * k)).take 4).length = 4 by simp [HL.out]; omega] at hv
      have hwo : IntKind.u32.wrap (ofHighB ((block.drop (4 * k)).take 4) : Int) = ((wordOf block k).toNat : Int) := by
        rw [IntKind.wrap_u32, wordOf, UInt32.toNat_ofNat']
        omega
      have hput := HR.out.put k (.int .u32 ((wordOf block k).toNat : Int))
      have hps := partW_step block k (by omega)
      rw [if_pos hlt] at hps
      rw [wordsC_put, hps] at hput
      have HP := Lib.hid hput
      have HW := Lib.hid hwo
      have ht8 : ((block.drop (4 * k)).take 4).take 8 = (block.drop (4 * k)).take 4 := List.take_of_length_le (by simp; omega)
      have HT := Lib.hid ht8
      clear hv hput hps hwo ht8
      go_wp2_with fail
      refine (OfHigh_any _ _ ((block.drop (4 * k)).take 4) (Bs.part HRB.out (4 * k) 4 (64 - 4 * k) (by rw [HL.out]; omega) (by omega) (by unfold maxLen; omega))).mono ?_
      rintro e w' ⟨rfl, rfl⟩
      rw [HT.out]
      have hwo := HW.out
      go_wp2
      go_roundw
      case rel => exact ⟨k + 1, by omega, by go_num, HP.out, HRB.out.far (by show g1 ≠ g3; omega) _, HB.out.setCell hg3 _⟩
      case measure => simp [intOf]; omega
    · have hk16 : k = 16 := by omega
      have HR16 : Hid (RowAt wr g3 99 (wordsC (partW block 16))) := by rw [← hk16]; exact HR
      clear hk16 HR
      go_wp2
      go_loopw [5] (fun i wr => ∃ k : Nat, 16 ≤ k ∧ k ≤ 64 ∧ i = .int .i64 k ∧ RowAt wr g3 99 (wordsC (partW block k)) ∧ Below w2.heap.size w2 wr) (fun i _ => 64 - (intOf i).toNat)
      case atStart => exact ⟨16, by omega, by omega, rfl, HR16.out, HB.out⟩
      case round =>
        clear HR16 HB HRB
        rename_i k0 _ _ _ _
        obtain ⟨k, hk16, hk64, rfl, hr, hb⟩ := hrel
        have HR := Lib.hid hr
        have HB := Lib.hid hb
        clear hr hb
        by_cases hlt : k < 64
        · obtain ⟨p1, hp1⟩ : ∃ p, p + 16 = k := ⟨k - 16, by omega⟩
          obtain ⟨p2, hp2⟩ : ∃ p, p + 15 = k := ⟨k - 15, by omega⟩
          obtain ⟨p3, hp3⟩ : ∃ p, p + 7 = k := ⟨k - 7, by omega⟩
          obtain ⟨p4, hp4⟩ : ∃ p, p + 2 = k := ⟨k - 2, by omega⟩
          have hs1 : IntKind.i64.wrap ((k : Int) - 16) = (p1 : Int) := by rw [IntWalk.i64_in _ (by omega)]; omega
          have hs2 : IntKind.i64.wrap ((k : Int) - 15) = (p2 : Int) := by rw [IntWalk.i64_in _ (by omega)]; omega
          have hs3 : IntKind.i64.wrap ((k : Int) - 7) = (p3 : Int) := by rw [IntWalk.i64_in _ (by omega)]; omega
          have hs4 : IntKind.i64.wrap ((k : Int) - 2) = (p4 : Int) := by rw [IntWalk.i64_in _ (by omega)]; omega
          have hln := partW_length block k (by omega)
          have hc1 := wordsC_cell HR.out p1 (by omega)
          have hc2 := wordsC_cell HR.out p2 (by omega)
          have hc3 := wordsC_cell HR.out p3 (by omega)
          have hc4 := wordsC_cell HR.out p4 (by omega)
          have hcell := wordsC_cell HR.out k (by omega)
          have hfz := HR.out.frozen k
          rw [partW_get _ _ _ (by omega)] at hc1 hc2 hc3 hc4
          have hps := partW_step block k hlt
          rw [if_neg (by omega), nextW, show k - 16 = p1 by omega, show k - 15 = p2 by omega, show k - 7 = p3 by omega, show k - 2 = p4 by omega] at hps
          generalize (wordsTo block k).getD p1 0 = x1 at hc1 hps
          generalize (wordsTo block k).getD p2 0 = x2 at hc2 hps
          generalize (wordsTo block k).getD p3 0 = x3 at hc3 hps
          generalize (wordsTo block k).getD p4 0 = x4 at hc4 hps
          generalize (partW block k).getD k 0 = x5 at hcell
          obtain ⟨xs, hxs⟩ : ∃ xs, xs = x1 + smallS x2 7 18 3 + x3 + smallS x4 17 19 10 := ⟨_, rfl⟩
          have HXS := Lib.hid hxs
          have hput := HR.out.put k (.int .u32 (xs.toNat : Int))
          rw [wordsC_put, hxs, hps, ← hxs] at hput
          clear hxs
          have HP := Lib.hid hput
          clear hln hps hput
          have hq1 : (p1 : Int) < 64 := by omega
          have hq2 : (p2 : Int) < 64 := by omega
          have hq3 : (p3 : Int) < 64 := by omega
          have hq4 : (p4 : Int) < 64 := by omega
          have hq5 : (k : Int) < 64 := by omega
          go_wp2_with fail
          go_still_tail 23, (by kernel_rfl)
          still_call ((moved_any _ x2 7 18 3 (by omega) (by omega) (by omega)).mono fun _ _ h => ⟨h.1, h.2.symm⟩)
          repeat still_step
          still_call ((moved_any _ x4 17 19 10 (by omega) (by omega) (by omega)).mono fun _ _ h => ⟨h.1, h.2.symm⟩)
          repeat still_step
          refine wpStill_nil ?_
          simp only [add32]
          rw [← HXS.out]
          change wpList _ _ _ _ _ wr.drew
          go_wp2
          go_roundw
          case rel => exact ⟨k + 1, by omega, by omega, by go_num, HP.out.drew, (HB.out.setCell hg3 _).drew⟩
          case measure => simp [intOf]; omega
        · have hk2 : k = 64 := by omega
          have HR2 : Hid (RowAt wr g3 99 fin) := by
            have := HR.out
            unfold partW at this
            rw [hk2] at this
            rw [HF.out]
            show RowAt _ _ _ _
            simpa using this
          have hsz : (wordsC (List.replicate 64 0)).size = fin.size := by rw [HF.out, wordsC_size, wordsC_size, wordsTo_length, List.length_replicate]
          have hsi : (Tryd.prog.info? 99).map (·.size) = some fin.size := by rw [HF.out, wordsC_size, wordsTo_length]; exact Tryd.size64
          have hone : ∀ u ∈ fin.toList, u.oneCell' = true := by rw [HF.out]; exact wordsC_one _
          have HS1 := Lib.hid hsz
          have HS2 := Lib.hid hsi
          have HS3 := Lib.hid hone
          have HG2 : Hid (RowAt wr g2 99 (wordsC (List.replicate 64 0))) := N2.out.row.below HB.out N2.out.row.lt
          clear hk2 hsz hsi hone
          go_wp2_with (first | (with_reducible refine wpList_load_row rfl 99 (.tmp 3) rfl g3 (by with_unfolding_all rfl) 99 fin (0, 0) (.array 64 25) (by with_unfolding_all exact HR2.out) Tryd.underlying99 rfl HS2.out ?_) | ((with_reducible refine wpList_store_row rfl 99 (.tmp 2) (.tmp 47) rfl g2 99 _ fin (by with_unfolding_all rfl) (by with_unfolding_all rfl) HG2.out HS1.out HS2.out HS3.out ?_); intro w4 p4))
          refine bodyPost_ret (results_cell_row rfl _ _ g2 99 fin (0, 0) (.array 64 25) rfl p4.row Tryd.underlying99 rfl HS2.out) rfl ⟨rfl, ?_⟩
          exact p4.below (below_size (below_size N1.out.below N2.out.below) HB.out) (by have := N1.out.below.size; have := N2.out.below.size; have := HB.out.size; omega) (by have := N2.out.spot; have := N1.out.below.size; omega)
end Go.Proofs.YtlifjlcfoeednaaDoor
end
section
namespace Go.Proofs.YtlifjlcfoeednaaDoor
open Go.RowKit
set_option linter.unusedVariables false
set_option maxRecDepth 20000

/-- The two tables at package level hold what the program's text lays. -/
structure Tabs (w : World) : Prop where
  cubes : ∀ j, j < 64 → w.cell? ⟨1, j, none⟩ = some (.int .u32 ((cubesW.getD j 0).toNat : Int))
  squares : ∀ j, j < 8 → w.cell? ⟨0, j, none⟩ = some (.int .u32 ((squaresW.getD j 0).toNat : Int))
theorem Tabs.below {w w' : World} (h : Tabs w) (hb : Below w.heap.size w w') : Tabs w' :=
  ⟨fun j hj => (hb.cell (World.block_lt_of_cell? w _ (h.cubes j hj))).trans (h.cubes j hj), fun j hj => (hb.cell (World.block_lt_of_cell? w _ (h.squares j hj))).trans (h.squares j hj)⟩

theorem not32 (x : UInt32) : 4294967295 - (x.toNat : Int) = ((4294967295 - x).toNat : Int) := by
  have := x.toNat_lt
  rw [UInt32.toNat_sub_of_le _ _ (by rw [UInt32.le_iff_toNat_le]; show x.toNat ≤ 4294967295; omega)]
  show _ = ((4294967295 - x.toNat : Nat) : Int)
  omega

theorem xor_ones (x : UInt32) : (4294967295 : UInt32) ^^^ x = 4294967295 - x := by
  have hx := x.toNat_lt
  apply UInt32.toNat_inj.1
  rw [UInt32.toNat_sub_of_le _ _ (by rw [UInt32.le_iff_toNat_le]; show x.toNat ≤ 4294967295; omega)]
  have h : (4294967295 : UInt32) ^^^ x = ⟨~~~ x.toBitVec⟩ := by
    apply UInt32.toBitVec_inj.1
    rw [UInt32.toBitVec_xor]
    show BitVec.allOnes 32 ^^^ x.toBitVec = _
    rw [BitVec.allOnes_xor]
  rw [h]
  show (~~~ x.toBitVec).toNat = _
  rw [BitVec.toNat_not]
  rfl
theorem flip32 (x : UInt32) : bits .xor .u32 (if IntKind.u32.signed = true then -1 else IntKind.u32.max) (x.toNat : Int) = ((4294967295 - x).toNat : Int) := by
  rw [← xor_ones, ← xor32]
  rfl

theorem add32m (a b : UInt32) : ((a.toNat : Int) + (b.toNat : Int)) % 4294967296 = ((a + b).toNat : Int) := by
  rw [UInt32.toNat_add]; omega

theorem Tryd.zero8 : (Tryd.prog.info? 90).map (·.zero) = some (some (.agg (wordsC (List.replicate 8 0)))) := by kernel_rfl
theorem Tryd.size8 : (Tryd.prog.info? 90).map (·.size) = some 8 := by kernel_rfl
theorem Tryd.size8l (l : List UInt32) (h : l.length = 8) : (Tryd.prog.info? 90).map (·.size) = some (wordsC l).size := by rw [wordsC_size, h]; exact Tryd.size8
theorem Tryd.size64b0 : (Tryd.prog.info? 96).map (·.size) = some 64 := by kernel_rfl
theorem Tryd.size64b (l : List UInt8) (h : l.length = 64) : (Tryd.prog.info? 96).map (·.size) = some (keyC l).size := by rw [keyC_size, h]; exact Tryd.size64b0

/-- The first k sums. -/
def mixed (st l : List UInt32) (k : Nat) : List UInt32 := (List.zipWith (· + ·) st l).take k ++ st.drop k
theorem mixed_length (st l : List UInt32) (k : Nat) (h : st.length = 8) (hl : l.length = 8) (hk : k ≤ 8) : (mixed st l k).length = 8 := by simp [mixed, h, hl]; omega
theorem mixed_zero (st l : List UInt32) : mixed st l 0 = st := by simp [mixed]
theorem mixed_all (st l : List UInt32) (h : st.length = 8) (hl : l.length = 8) : mixed st l 8 = List.zipWith (· + ·) st l := by
  unfold mixed
  rw [List.take_of_length_le (by simp [h, hl]), List.drop_of_length_le (by omega), List.append_nil]
theorem mixed_get (st l : List UInt32) (k : Nat) (h : st.length = 8) (hl : l.length = 8) (hk : k < 8) : (mixed st l k).getD k 0 = st.getD k 0 := by
  unfold mixed
  simp only [List.getD_eq_getElem?_getD]
  rw [List.getElem?_append_right (by simp [h, hl]; omega)]
  simp [h, hl, show min k 8 = k by omega]
theorem mixed_step (st l : List UInt32) (k : Nat) (h : st.length = 8) (hl : l.length = 8) (hk : k < 8) : (mixed st l k).set k (st.getD k 0 + l.getD k 0) = mixed st l (k + 1) := by
  unfold mixed
  have hz : (List.zipWith (· + ·) st l).length = 8 := by simp [h, hl]
  rw [List.set_append_right _ _ (by simp [h, hl]; omega), List.take_succ_eq_append_getElem (by omega), List.append_assoc]
  congr 1
  rw [show k - ((List.zipWith (· + ·) st l).take k).length = 0 by simp [h, hl]; omega, List.drop_eq_getElem_cons (l := st) (i := k) (by omega), List.set_cons_zero]
  simp [h, hl, hk]

theorem Tryd.index8_0 (x : World) (s : Eight8) : (Instr.index 90 (.agg #[.int .u32 (s.a.toNat : Int), .int .u32 (s.b.toNat : Int), .int .u32 (s.c.toNat : Int), .int .u32 (s.d.toNat : Int), .int .u32 (s.e.toNat : Int), .int .u32 (s.f.toNat : Int), .int .u32 (s.g.toNat : Int), .int .u32 (s.h.toNat : Int)]) (.int .i64 0)).run Tryd.prog x = .ok (.int .u32 (s.a.toNat : Int)) x := by kernel_rfl
theorem Tryd.index8_1 (x : World) (s : Eight8) : (Instr.index 90 (.agg #[.int .u32 (s.a.toNat : Int), .int .u32 (s.b.toNat : Int), .int .u32 (s.c.toNat : Int), .int .u32 (s.d.toNat : Int), .int .u32 (s.e.toNat : Int), .int .u32 (s.f.toNat : Int), .int .u32 (s.g.toNat : Int), .int .u32 (s.h.toNat : Int)]) (.int .i64 1)).run Tryd.prog x = .ok (.int .u32 (s.b.toNat : Int)) x := by kernel_rfl
theorem Tryd.index8_2 (x : World) (s : Eight8) : (Instr.index 90 (.agg #[.int .u32 (s.a.toNat : Int), .int .u32 (s.b.toNat : Int), .int .u32 (s.c.toNat : Int), .int .u32 (s.d.toNat : Int), .int .u32 (s.e.toNat : Int), .int .u32 (s.f.toNat : Int), .int .u32 (s.g.toNat : Int), .int .u32 (s.h.toNat : Int)]) (.int .i64 2)).run Tryd.prog x = .ok (.int .u32 (s.c.toNat : Int)) x := by kernel_rfl
theorem Tryd.index8_3 (x : World) (s : Eight8) : (Instr.index 90 (.agg #[.int .u32 (s.a.toNat : Int), .int .u32 (s.b.toNat : Int), .int .u32 (s.c.toNat : Int), .int .u32 (s.d.toNat : Int), .int .u32 (s.e.toNat : Int), .int .u32 (s.f.toNat : Int), .int .u32 (s.g.toNat : Int), .int .u32 (s.h.toNat : Int)]) (.int .i64 3)).run Tryd.prog x = .ok (.int .u32 (s.d.toNat : Int)) x := by kernel_rfl
theorem Tryd.index8_4 (x : World) (s : Eight8) : (Instr.index 90 (.agg #[.int .u32 (s.a.toNat : Int), .int .u32 (s.b.toNat : Int), .int .u32 (s.c.toNat : Int), .int .u32 (s.d.toNat : Int), .int .u32 (s.e.toNat : Int), .int .u32 (s.f.toNat : Int), .int .u32 (s.g.toNat : Int), .int .u32 (s.h.toNat : Int)]) (.int .i64 4)).run Tryd.prog x = .ok (.int .u32 (s.e.toNat : Int)) x := by kernel_rfl
theorem Tryd.index8_5 (x : World) (s : Eight8) : (Instr.index 90 (.agg #[.int .u32 (s.a.toNat : Int), .int .u32 (s.b.toNat : Int), .int .u32 (s.c.toNat : Int), .int .u32 (s.d.toNat : Int), .int .u32 (s.e.toNat : Int), .int .u32 (s.f.toNat : Int), .int .u32 (s.g.toNat : Int), .int .u32 (s.h.toNat : Int)]) (.int .i64 5)).run Tryd.prog x = .ok (.int .u32 (s.f.toNat : Int)) x := by kernel_rfl
theorem Tryd.index8_6 (x : World) (s : Eight8) : (Instr.index 90 (.agg #[.int .u32 (s.a.toNat : Int), .int .u32 (s.b.toNat : Int), .int .u32 (s.c.toNat : Int), .int .u32 (s.d.toNat : Int), .int .u32 (s.e.toNat : Int), .int .u32 (s.f.toNat : Int), .int .u32 (s.g.toNat : Int), .int .u32 (s.h.toNat : Int)]) (.int .i64 6)).run Tryd.prog x = .ok (.int .u32 (s.g.toNat : Int)) x := by kernel_rfl
theorem Tryd.index8_7 (x : World) (s : Eight8) : (Instr.index 90 (.agg #[.int .u32 (s.a.toNat : Int), .int .u32 (s.b.toNat : Int), .int .u32 (s.c.toNat : Int), .int .u32 (s.d.toNat : Int), .int .u32 (s.e.toNat : Int), .int .u32 (s.f.toNat : Int), .int .u32 (s.g.toNat : Int), .int .u32 (s.h.toNat : Int)]) (.int .i64 7)).run Tryd.prog x = .ok (.int .u32 (s.h.toNat : Int)) x := by kernel_rfl
theorem Tryd.index8 (x : World) (s : Eight8) (k : Nat) (hk : k < 8) :
    (Instr.index 90 (.agg #[.int .u32 (s.a.toNat : Int), .int .u32 (s.b.toNat : Int), .int .u32 (s.c.toNat : Int), .int .u32 (s.d.toNat : Int), .int .u32 (s.e.toNat : Int), .int .u32 (s.f.toNat : Int), .int .u32 (s.g.toNat : Int), .int .u32 (s.h.toNat : Int)]) (.int .i64 (k : Int))).run Tryd.prog x = .ok (.int .u32 (((ofE s).getD k 0).toNat : Int)) x := by
  have h : k = 0 ∨ k = 1 ∨ k = 2 ∨ k = 3 ∨ k = 4 ∨ k = 5 ∨ k = 6 ∨ k = 7 := by omega
  rcases h with rfl | rfl | rfl | rfl | rfl | rfl | rfl | rfl
  · exact Tryd.index8_0 x s
  · exact Tryd.index8_1 x s
  · exact Tryd.index8_2 x s
  · exact Tryd.index8_3 x s
  · exact Tryd.index8_4 x s
  · exact Tryd.index8_5 x s
  · exact Tryd.index8_6 x s
  · exact Tryd.index8_7 x s

set_option maxHeartbeats 4000000 in
set_option maxRecDepth 20000 in
theorem Block_any (w : World) (ht : Tabs w) (st : List UInt32) (block : List UInt8) (hs : st.length = 8) (hl : block.length = 64) :
    Calls Tryd.prog 39 #[.agg (wordsC st), keyV block] w (RetV w (.agg (wordsC (blockW st block)))) := by
  obtain ⟨fin, hfin⟩ : ∃ fin, fin = blockW st block := ⟨_, rfl⟩
  obtain ⟨ws, hws⟩ : ∃ ws, ws = wordsTo block 64 := ⟨_, rfl⟩
  obtain ⟨s0, hs0⟩ : ∃ s0, s0 = toE st := ⟨_, rfl⟩
  have hwl : ws.length = 64 := by rw [hws, wordsTo_length]
  have hfl : fin.length = 8 := by rw [hfin]; exact blockW_length _ _ hs
  rw [← hfin]
  have HF : Hid (fin = List.zipWith (· + ·) st (ofE (roundsE ws s0 64))) := by rw [hfin, hws, hs0]; rfl
  have HSP := Lib.hid (spread_any (block := block) · hl)
  rw [← hws] at HSP
  have HW := Lib.hid hwl
  have HFL := Lib.hid hfl
  have HS := Lib.hid hs
  have HL := Lib.hid hl
  have HT := Lib.hid ht
  have HS0 := Lib.hid hs0
  clear hfin hws hwl hfl hs hl ht hs0
  go_enter Tryd.func39, Tryd.ntmps39
  go_wp2_with (first
    | ((with_reducible refine wpList_box_row (o := ⟨some 2, _, _, _, _, _⟩) rfl 90 (.tmp 0) rfl (wordsC st) (by with_unfolding_all rfl) ?_); intro g2 w2 n2)
    | ((with_reducible refine wpList_box_row (o := ⟨some 3, _, _, _, _, _⟩) rfl 96 (.tmp 1) rfl (keyC block) (by with_unfolding_all rfl) ?_); intro g3 w3 n3)
    | ((with_reducible refine wpList_alloc_row (o := ⟨some 4, _, _, _, _, _⟩) rfl 90 rfl (wordsC (List.replicate 8 0)) Tryd.zero8 ?_); intro g4 w4 n4)
    | (with_reducible refine wpList_load_row (o := ⟨some 19, _, _, _, _, _⟩) rfl 96 (.tmp 3) rfl g3 (by with_unfolding_all rfl) 96 (keyC block) (0, 0) (.array 64 5) (by with_unfolding_all exact n3.row.kept n4.below) Tryd.underlying96 rfl (Tryd.size64b block HL.out) ?_)
    | (go_at_call 46; refine (HSP.out _).mono ?_; rintro e w5 ⟨rfl, b5⟩)
    | ((with_reducible refine wpList_alloc_row (o := ⟨some 5, _, _, _, _, _⟩) rfl 99 rfl (wordsC (List.replicate 64 0)) Tryd.zero64 ?_); intro g6 w6 n6)
    | ((with_reducible refine wpList_store_row (o := ⟨none, _, _, _, _, _⟩) rfl 99 (.tmp 5) (.tmp 20) rfl g6 99 _ (wordsC ws) (by with_unfolding_all rfl) (by with_unfolding_all rfl) n6.row (by rw [wordsC_size, wordsC_size, HW.out, List.length_replicate]) (Tryd.size64l ws HW.out) (wordsC_one ws) ?_); intro w7 p7))
  have hw6 : w.heap.size ≤ w6.heap.size := by have := n2.below.size; have := n3.below.size; have := n4.below.size; have := b5.size; have := n6.below.size; omega
  have e2 := n2.spot
  have e3 := n3.spot
  have e4 := n4.spot
  have e6 := n6.spot
  have z2 := n2.size
  have z3 := n3.size
  have z4 := n4.size
  have z5 := b5.size
  have B6 : Below w.heap.size w w6 := below_size (below_size (below_size (below_size n2.below n3.below) n4.below) b5) n6.below
  have B7 : Hid (Below w.heap.size w w7) := p7.below B6 hw6 (by omega)
  have R2 : Hid (RowAt w7 g2 90 (wordsC st)) := ((((n2.row.kept n3.below).kept n4.below).kept b5).kept n6.below).grown p7.grown (by intro h; injection h with h; omega)
  have R4 : Hid (RowAt w7 g4 90 (wordsC (List.replicate 8 0))) := ((n4.row.kept b5).kept n6.below).grown p7.grown (by intro h; injection h with h; omega)
  have R6 : Hid (RowAt w7 g6 99 (wordsC ws)) := p7.row
  have T7 : Hid (Tabs w7) := HT.out.below B7.out
  have hg2 : w.heap.size ≤ g2 := by omega
  have hg4 : w.heap.size ≤ g4 := by omega
  have hg24 : g2 ≠ g4 := by omega
  have hg46 : g2 ≠ g6 := by omega
  clear hw6 e2 e3 e4 e6 z2 z3 z4 z5 B6 n2 n3 n4 b5 n6 p7 HSP HT
  have E0 : Hid (st.getD 0 0 = s0.a ∧ st.getD 1 0 = s0.b ∧ st.getD 2 0 = s0.c ∧ st.getD 3 0 = s0.d ∧ st.getD 4 0 = s0.e ∧ st.getD 5 0 = s0.f ∧ st.getD 6 0 = s0.g ∧ st.getD 7 0 = s0.h) := by
    rw [HS0.out]; exact ⟨rfl, rfl, rfl, rfl, rfl, rfl, rfl, rfl⟩
  have c0 := wordsC_cell R2.out 0 (by rw [HS.out]; omega)
  have c1 := wordsC_cell R2.out 1 (by rw [HS.out]; omega)
  have c2 := wordsC_cell R2.out 2 (by rw [HS.out]; omega)
  have c3 := wordsC_cell R2.out 3 (by rw [HS.out]; omega)
  have c4 := wordsC_cell R2.out 4 (by rw [HS.out]; omega)
  have c5 := wordsC_cell R2.out 5 (by rw [HS.out]; omega)
  have c6 := wordsC_cell R2.out 6 (by rw [HS.out]; omega)
  have c7 := wordsC_cell R2.out 7 (by rw [HS.out]; omega)
  rw [E0.out.1] at c0
  rw [E0.out.2.1] at c1
  rw [E0.out.2.2.1] at c2
  rw [E0.out.2.2.2.1] at c3
  rw [E0.out.2.2.2.2.1] at c4
  rw [E0.out.2.2.2.2.2.1] at c5
  rw [E0.out.2.2.2.2.2.2.1] at c6
  rw [E0.out.2.2.2.2.2.2.2] at c7
  simp only [Act.put, Array.setIfInBounds, List.size_toArray, List.length_cons, List.length_nil]
  go_quiet (fail)
  clear c0 c1 c2 c3 c4 c5 c6 c7 E0
  go_wp2
  go_loopw [6, 7, 8, 9, 10, 11, 12, 13, 37] (fun a b c d e f g h i wr => ∃ (k n : Nat) (s : Eight8), k ≤ 64 ∧ i = .int .i64 k ∧ s = roundsE ws s0 k ∧ a = .int .u32 (s.a.toNat : Int) ∧ b = .int .u32 (s.b.toNat : Int) ∧ c = .int .u32 (s.c.toNat : Int) ∧ d = .int .u32 (s.d.toNat : Int) ∧ e = .int .u32 (s.e.toNat : Int) ∧ f = .int .u32 (s.f.toNat : Int) ∧ g = .int .u32 (s.g.toNat : Int) ∧ h = .int .u32 (s.h.toNat : Int) ∧ wr = w7.drewN n) (fun _ _ _ _ _ _ _ _ i _ => 64 - (intOf i).toNat)
  case atStart => exact ⟨0, nq, s0, by omega, rfl, rfl, rfl, rfl, rfl, rfl, rfl, rfl, rfl, rfl, rfl⟩
  case round =>
    obtain ⟨k, n, s, hk, rfl, hs, rfl, rfl, rfl, rfl, rfl, rfl, rfl, rfl, hwr⟩ := hrel
    have HWR := Lib.hid hwr
    have HSS := Lib.hid hs
    by_cases hlt : k < 64
    · have ck : wr.cell? ⟨1, k, none⟩ = some (.int .u32 ((cubesW.getD k 0).toNat : Int)) := by rw [hwr]; exact T7.out.cubes k hlt
      have cw : wr.cell? ⟨g6, k, none⟩ = some (.int .u32 ((ws.getD k 0).toNat : Int)) := by rw [hwr]; exact wordsC_cell R6.out k (by rw [HW.out]; exact hlt)
      have HSN : Hid (roundsE ws s0 (k + 1) = stepE s (cubesW.getD k 0) (ws.getD k 0)) := by rw [hs]; rfl
      generalize cubesW.getD k 0 = kk at ck HSN
      generalize ws.getD k 0 = ww at cw HSN
      have hq : (k : Int) < 64 := by omega
      have hea := s.a.toNat_lt
      have heb := s.e.toNat_lt
      clear hwr hs
      go_wp2_with fail
      refine wp_region_still_lit (by kernel_rfl) (by kernel_rfl) ?_
      repeat still_step
      still_call ((turned_any _ s.e 6 11 25 (by omega) (by omega) (by omega)).mono fun _ _ h => ⟨h.1, h.2.symm⟩)
      repeat still_step
      refine wpStill_nil ?_
      obtain ⟨t1, ht1⟩ : ∃ t1, s.h + bigS s.e 6 11 25 + ((s.e &&& s.f) ^^^ ((4294967295 - s.e) &&& s.g)) + kk + ww = t1 := ⟨_, rfl⟩
      simp only [flip32, and32, xor32, add32]
      rw [ht1]
      have HT1 := Lib.hid ht1
      clear ht1 ck cw hea heb
      change Exit.then _ _ _ _ wr.drew
      go_wp2_with (go_at_call 47; refine (turned_any _ s.a 2 13 22 (by omega) (by omega) (by omega)).mono ?_; rintro e w' ⟨rfl, rfl⟩)
      go_roundw
      case rel => 
        refine ⟨k + 1, n + 1, stepE s kk ww, by omega, by go_num, HSN.out.symm, ?_, rfl, rfl, rfl, ?_, rfl, rfl, rfl, by rw [HWR.out]; rfl⟩
        · simp only [and32, xor32, add32m]
          rw [← HT1.out]
          rfl
        · simp only [add32m]
          rw [← HT1.out]
          rfl
      case measure => simp [intOf]; omega
    · have hk64 : k = 64 := by omega
      have HS64 : Hid (s = roundsE ws s0 64) := by rw [← hk64]; exact HSS
      have B8 : Hid (Below w.heap.size w wr) := by rw [hwr]; exact below_drewN B7.out n
      have R28 : Hid (RowAt wr g2 90 (wordsC (mixed st (ofE s) 0))) := by rw [hwr, mixed_zero]; exact R2.out
      have R48 : Hid (RowAt wr g4 90 (wordsC (List.replicate 8 0))) := by rw [hwr]; exact R4.out
      clear hwr hs HWR HSS R2 R4 R6 T7 B7 hk64
      go_wp2
      go_loopw [97] (fun i wr => ∃ k : Nat, k ≤ 8 ∧ i = .int .i64 k ∧ RowAt wr g2 90 (wordsC (mixed st (ofE s) k)) ∧ RowAt wr g4 90 (wordsC (List.replicate 8 0)) ∧ Below w.heap.size w wr) (fun i _ => 8 - (intOf i).toNat)
      case atStart => exact ⟨0, by omega, rfl, R28.out, R48.out, B8.out⟩
      case round =>
        clear R28 R48 B8
        rename_i k0 _ _ _ _
        obtain ⟨k, hk8, rfl, hr2, hr4, hb⟩ := hrel
        have R2 := Lib.hid hr2
        have R4 := Lib.hid hr4
        have HB := Lib.hid hb
        clear hr2 hr4 hb
        by_cases hlt8 : k < 8
        · have c0 := wordsC_cell R2.out k (by rw [mixed_length _ _ _ HS.out (ofE_length s) (by omega)]; omega)
          rw [mixed_get _ _ _ HS.out (ofE_length s) hlt8] at c0
          have hfz := R2.out.frozen k
          have hix := fun x => Tryd.index8 x s k hlt8
          have hps := mixed_step st (ofE s) k HS.out (ofE_length s) hlt8
          generalize st.getD k 0 = x1 at c0 hps
          generalize (ofE s).getD k 0 = x2 at hix hps
          obtain ⟨xs, hxs⟩ : ∃ xs, x1 + x2 = xs := ⟨_, rfl⟩
          have hsum : IntKind.u32.wrap ((x1.toNat : Int) + (x2.toNat : Int)) = (xs.toNat : Int) := by rw [add32, hxs]
          have hput := R2.out.put k (.int .u32 (xs.toNat : Int))
          rw [wordsC_put, ← hxs, hps, hxs] at hput
          have HP := Lib.hid hput
          clear hput hps hxs
          go_wp2
          go_roundw
          case rel => exact ⟨k + 1, by omega, by go_num, HP.out, R4.out.far (by show g4 ≠ g2; omega) _, HB.out.setCell hg2 _⟩
          case measure => simp [intOf]; omega
        · have hk88 : k = 8 := by omega
          have HR2 : Hid (RowAt wr g2 90 (wordsC fin)) := by
            have := R2.out
            rw [hk88, mixed_all _ _ HS.out (ofE_length s)] at this
            rw [HF.out, ← HS64.out]
            exact this
          clear hk88
          go_wp2_with (first | (with_reducible refine wpList_load_row rfl 90 (.tmp 2) rfl g2 (by with_unfolding_all rfl) 90 (wordsC fin) (0, 0) (.array 8 25) (by with_unfolding_all exact HR2.out) Tryd.underlying90 rfl (Tryd.size8l fin HFL.out) ?_) | ((with_reducible refine wpList_store_row rfl 90 (.tmp 4) (.tmp 108) rfl g4 90 _ (wordsC fin) (by with_unfolding_all rfl) (by with_unfolding_all rfl) R4.out (by rw [wordsC_size, wordsC_size, HFL.out, List.length_replicate]) (Tryd.size8l fin HFL.out) (wordsC_one fin) ?_); intro w9 p9))
          refine bodyPost_ret (results_cell_row rfl _ _ g4 90 (wordsC fin) (0, 0) (.array 8 25) rfl p9.row Tryd.underlying90 rfl (Tryd.size8l fin HFL.out)) rfl ⟨rfl, ?_⟩
          exact p9.below HB.out HB.out.size hg4
end Go.Proofs.YtlifjlcfoeednaaDoor
end
section
namespace Go.Proofs.YtlifjlcfoeednaaDoor
open Go.RowKit
set_option linter.unusedVariables false
set_option maxRecDepth 100000

theorem gCubes : Tryd.prog.globalNamed "cablegram/sha.cubes" = some 1 := by kernel_rfl
theorem gCubesType : (Tryd.prog.globals[1]?).map (·.type) = some 99 := by kernel_rfl
theorem gSquares : Tryd.prog.globalNamed "cablegram/sha.squares" = some 0 := by kernel_rfl
theorem gSquaresType : (Tryd.prog.globals[0]?).map (·.type) = some 90 := by kernel_rfl
theorem cellsT1 : Tryd.prog.cellsOf 25 = 1 := by kernel_rfl
theorem cellsT64 : Tryd.prog.cellsOf 99 = 64 := by kernel_rfl
theorem cellsT8 : Tryd.prog.cellsOf 90 = 8 := by kernel_rfl
def cubesI : List Int := cubesW.map fun x => (x.toNat : Int)
def squaresI : List Int := squaresW.map fun x => (x.toNat : Int)
theorem cubes_data : (Rows.laid_cablegram_sha_cubes : DataW Unit) = Lib.tabData .u32 cubesI := by kernel_rfl
theorem squares_data : (Rows.laid_cablegram_sha_squares : DataW Unit) = Lib.tabData .u32 squaresI := by kernel_rfl
theorem tab_get (l : List UInt32) (j : Nat) (h : j < l.length) : (l.map fun x => (x.toNat : Int)).getD j 0 = ((l.getD j 0).toNat : Int) := by
  simp [List.getD_eq_getElem?_getD, h]

theorem tables {W : World} (h : laidMetH Tryd.prog Rows.trailCutRow.laid W) : Tabs W := by
  have h0 : laidMet Tryd.prog [("cablegram/sha.cubes", Rows.laid_cablegram_sha_cubes), ("cablegram/sha.squares", Rows.laid_cablegram_sha_squares)] W := h
  have h1 := laidMet.tail h0
  rw [cubes_data] at h0
  rw [squares_data] at h1
  have c := Lib.tabIs_of_head gCubes gCubesType Tryd.underlying99 Tryd.underlying25 cellsT1 cellsT64 h0
  have s := Lib.tabIs_of_head gSquares gSquaresType Tryd.underlying90 Tryd.underlying25 cellsT1 cellsT8 h1
  refine ⟨fun j hj => ?_, fun j hj => ?_⟩
  · have := c.cell gCubes j (by simp [cubesI, cubesW_length]; exact hj)
    rw [this, cubesI, tab_get _ _ (by rw [cubesW_length]; exact hj)]
  · have := s.cell gSquares j (by simp [squaresI, squaresW_length]; exact hj)
    rw [this, squaresI, tab_get _ _ (by rw [squaresW_length]; exact hj)]

def putCells (cs : Array Value) : Obj → Obj
  | .cells _ t frozen => .cells cs t frozen
  | o => o
/-- A world for a witness: the settled one, the tables holding what their initialisers lay. -/
noncomputable def laidWorld (os : Os) : World :=
  { World.holding Tryd.prog os ⟨#[], #[], []⟩ with heap := Array.modify (Array.modify (World.holding Tryd.prog os ⟨#[], #[], []⟩).heap 1 (putCells #[.int .u32 1116352408, .int .u32 1899447441, .int .u32 3049323471, .int .u32 3921009573, .int .u32 961987163, .int .u32 1508970993, .int .u32 2453635748, .int .u32 2870763221, .int .u32 3624381080, .int .u32 310598401, .int .u32 607225278, .int .u32 1426881987, .int .u32 1925078388, .int .u32 2162078206, .int .u32 2614888103, .int .u32 3248222580, .int .u32 3835390401, .int .u32 4022224774, .int .u32 264347078, .int .u32 604807628, .int .u32 770255983, .int .u32 1249150122, .int .u32 1555081692, .int .u32 1996064986, .int .u32 2554220882, .int .u32 2821834349, .int .u32 2952996808, .int .u32 3210313671, .int .u32 3336571891, .int .u32 3584528711, .int .u32 113926993, .int .u32 338241895, .int .u32 666307205, .int .u32 773529912, .int .u32 1294757372, .int .u32 1396182291, .int .u32 1695183700, .int .u32 1986661051, .int .u32 2177026350, .int .u32 2456956037, .int .u32 2730485921, .int .u32 2820302411, .int .u32 3259730800, .int .u32 3345764771, .int .u32 3516065817, .int .u32 3600352804, .int .u32 4094571909, .int .u32 275423344, .int .u32 430227734, .int .u32 506948616, .int .u32 659060556, .int .u32 883997877, .int .u32 958139571, .int .u32 1322822218, .int .u32 1537002063, .int .u32 1747873779, .int .u32 1955562222, .int .u32 2024104815, .int .u32 2227730452, .int .u32 2361852424, .int .u32 2428436474, .int .u32 2756734187, .int .u32 3204031479, .int .u32 3329325298])) 0 (putCells #[.int .u32 1779033703, .int .u32 3144134277, .int .u32 1013904242, .int .u32 2773480762, .int .u32 1359893119, .int .u32 2600822924, .int .u32 528734635, .int .u32 1541459225]) }
end Go.Proofs.YtlifjlcfoeednaaDoor
end
section
namespace Go.Proofs.YtlifjlcfoeednaaDoor
set_option linter.unusedVariables false

section
variable {P : Program} {ops : Array Oper} {md : Region.Mode} {C : World → Prop}

/-- In whatever order the first operations come up, each is quiet; behind them L. -/
def headQ (P : Program) (md : Region.Mode) (ops : Array Oper) (C : World → Prop) (n : Nat) (L : Array Bool → Act → Prop) : Nat → Array Bool → Act → Prop
  | 0 => L
  | f + 1 => fun listed a => Region.ready md ops listed ≠ [] ∧ ∀ i ∈ Region.ready md ops listed, i < n ∧ qOp P ops C i (headQ P md ops C n L f (listed.setIfInBounds i true)) a

theorem any_of_headQ {n g : Nat} {L : Array Bool → Act → Prop} {Q : Exit → Act → World → Prop} (hL : ∀ listed a w, C w → L listed a → wpAny P md ops Q g listed a w) (f : Nat) :
    ∀ (listed : Array Bool) (a : Act) (w : World), C w → headQ P md ops C n L f listed a → wpAny P md ops Q (f + g) listed a w := by
  induction f with
  | zero => intro listed a w hw h; rw [Nat.zero_add]; exact hL _ _ _ hw h
  | succ f ih =>
    intro listed a w hw h
    rw [show f + 1 + g = (f + g) + 1 by omega]
    exact ⟨fun h0 => absurd h0 h.1, fun i hi => wpOp_of_qOp hw (fun a' w' hw' h' => ih _ a' w' hw' h') (h.2 i hi).2⟩

/-- What of the head is ready may be taken first. -/
theorem headQ_first {n i : Nat} {oi : Oper} {v : Value} {L : Array Bool → Act → Prop} (hi : ops[i]? = some oi) (hsel : ∀ (j : Nat) (o : Oper) cs b, ops[j]? = some o → o.op ≠ .select cs b)
    (hs : Region.sinkB md ops n = true) (hc : Region.chainB md ops n = true) (hn : n < ops.size) (hin : i < n)
    (hdone : ∀ listed a, L listed a → ∀ j ∈ Region.ready md ops listed, n ≤ j) (f : Nat) :
    ∀ (listed : Array Bool) (a : Act), HeadInv md ops n listed →
      (∀ j oj, ops[j]? = some oj → j ≠ i → listed.getD j true = false → (∀ e ∈ oj.after, Region.binds md e = true → e.on ≠ i) → oi.apart ops oj = true) →
      i ∈ Region.ready md ops listed → YieldsIn P ops C oi v a →
      headQ P md ops C n L f (listed.setIfInBounds i true) (a.put oi.dst v) → headQ P md ops C n L (f + 1) listed a := by
  induction f with
  | zero =>
    intro listed a inv _ hr hy H
    refine ⟨fun h0 => (by rw [h0] at hr; cases hr), fun j hj => ?_⟩
    have hlt : j < n := Nat.lt_of_not_le fun hge => tail_waits hs hc hn inv _ i rfl hin (mem_ready.1 hr).1 j hge hj
    refine ⟨hlt, ?_⟩
    by_cases e : j = i
    · rw [e]; exact hy.qOp hi H
    · exact absurd hlt (Nat.not_lt.2 (hdone _ _ H j (ready_mono hj e)))
  | succ f ih =>
    intro listed a inv free hr hy H
    refine ⟨fun h0 => (by rw [h0] at hr; cases hr), fun j hj => ?_⟩
    have hlt : j < n := Nat.lt_of_not_le fun hge => tail_waits hs hc hn inv _ i rfl hin (mem_ready.1 hr).1 j hge hj
    refine ⟨hlt, ?_⟩
    by_cases e : j = i
    · rw [e]; exact hy.qOp hi H
    · obtain ⟨hun, oj, hoj, hall⟩ := mem_ready.1 hj
      have hno : ∀ x ∈ oj.after, Region.binds md x = true → x.on ≠ i := fun x hx hb hon => by
        have h1 := hall x hx hb
        rw [hon, getD_both (mem_ready.1 hr).1] at h1
        cases h1
      have hboth := qOp_put hoj (free j oj hoj e hun hno) (fun cs b => hsel i oi cs b hi) (fun cs b => hsel j oj cs b hoj) hy (H.2 j (ready_mono hj e)).2
      refine qOp_mono (fun a' h3 => ?_) hboth
      refine ih _ a' (inv.set hj hlt) (fun k ok hk hki hkun hkno => ?_) (ready_mono hr (Ne.symm e)) h3.1 ?_
      · refine free k ok hk hki ?_ hkno
        rcases Nat.decEq j k with hne | heq
        · rwa [getD_set_ne true hne] at hkun
        · rw [← heq]; exact hun
      · rw [Array.setIfInBounds_comm _ _ e]; exact h3.2

theorem headQ_lex {n g : Nat} {K : Act → Prop} (hsel : Region.noSelect ops = true) (hs : Region.sinkB md ops n = true) (hc : Region.chainB md ops n = true) (hn : n < ops.size) (l : List Oper) :
    ∀ (k : Nat) (listed : Array Bool) (a : Act), (∀ j, j < l.length → l[j]? = ops[k + j]?) → k + l.length = n → HeadInv md ops n listed →
    Region.lexHead md ops g l.length k listed = true → wpQuiet P ops C K l a →
    headQ P md ops C n (fun listed' a' => Region.seqB md ops g n listed' = true ∧ K a') l.length listed a := by
  induction l with
  | nil =>
    intro k listed a _ hk _ hB h
    obtain rfl : k = n := by simpa using hk
    exact ⟨by simpa [Region.lexHead] using hB, h⟩
  | cons o l ih =>
    intro k listed a hl hk inv hB h
    simp only [List.length_cons, Region.lexHead, Bool.and_eq_true] at hB hk
    have h0 : ops[k]? = some o := by simpa using (hl 0 (by simp)).symm
    have hst : qOp P ops C k (wpQuiet P ops C K l) a := by unfold qOp; simp only [h0]; exact h
    obtain ⟨v, hy, hK⟩ := yieldsIn_of_qOp h0 hst
    have hr : k ∈ Region.ready md ops listed := by simpa using hB.1.1
    refine headQ_first h0 (Region.noSelect_spec hsel) hs hc hn (by omega) (fun _ _ hL => seqB_ready hL.1) l.length listed a inv (Region.free_spec h0 hB.1.2) hr hy ?_
    refine ih (k + 1) _ _ (fun j hj => ?_) (by omega) (inv.set hr (by omega)) hB.2 hK
    have := hl (j + 1) (by simp; omega)
    simpa [Nat.add_assoc, Nat.add_comm 1 j] using this

/-- THE WAY IN: the first n operations quiet in 'w after some draws', walked in the text's order; the others in one row. -/
theorem region_quiet_tail {id : Nat} {Q : Exit → Act → World → Prop} {a : Act} {w : World} {l : List Oper} (n : Nat) (hm : P.follows .mixedOrders = true) (hB : Region.lexTailB .any l.toArray n = true)
    (h : wpQuiet P l.toArray (fun w' => ∃ n, w' = w.drewN n) (fun a' => ∀ w', (∃ n, w' = w.drewN n) → wpList P l.toArray Q (l.drop n) a' w') (l.take n) a) : (Code.region id l.toArray true).wp P Q a w := by
  simp only [Region.lexTailB, Bool.and_eq_true, decide_eq_true_eq] at hB
  obtain ⟨⟨⟨⟨hsel, hn⟩, hs⟩, hc⟩, hlex⟩ := hB
  have hn' : n < l.length := by simpa using hn
  have htl : (l.take n).length = n := by rw [List.length_take]; omega
  have hdl : (l.drop n).length = l.toArray.size - n := by simp
  have H := headQ_lex (md := .any) (g := l.toArray.size - n) hsel hs hc hn (l.take n) 0 (Array.replicate l.toArray.size false) a
    (fun j hj => by rw [htl] at hj; simp [hj]) (by rw [htl]; omega)
    ⟨by simp, fun j oj _ hl => (by rw [getD_replicate_false] at hl; cases hl), fun t _ ht => getD_in (by simpa using ht) (getD_replicate_false _ _)⟩ (by rw [htl]; exact hlex) h
  refine wp_region_any hm ?_
  have A := any_of_headQ (Q := Q) (g := l.toArray.size - n) (fun listed a' w' hw' hL => by
    have := wpAny_of_seq (md := .any) (Q' := Q) (l.drop n) n listed a' w' (fun j => by simp [List.getElem?_drop]) (by rw [hdl]; exact hL.1) (hL.2 w' hw')
    rwa [hdl] at this) (l.take n).length _ _ { w with drawn := w.drawn + 1 } ⟨1, rfl⟩ H
  rw [htl, show n + (l.toArray.size - n) = l.toArray.size by omega] at A
  exact A
end
end Go.Proofs.YtlifjlcfoeednaaDoor
end
