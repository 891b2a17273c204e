/-
  Contracts of octets' and cablegramref01's functions that mix and compare bytes. Conditions: as each theorem names them.
-/
import Derived.Test.YtemjlolpbbcclaaB
import Derived.Deep.RegionLaw
namespace Go.Proofs.Ytemjlolpbbcclaa
open Go.RowKit
set_option linter.unusedVariables false

theorem xor_byte (a b : UInt8) : bits .xor .u8 (a.toNat : Int) (b.toNat : Int) = ((a ^^^ b).toNat : Int) := by
  rw [u8_xor_nat _ _ a.toNat_lt b.toNat_lt, UInt8.toNat_xor]
theorem or_byte (a b : UInt8) : bits .or .u8 (a.toNat : Int) (b.toNat : Int) = ((a ||| b).toNat : Int) := by
  rw [u8_or_nat _ _ a.toNat_lt b.toNat_lt, UInt8.toNat_or]

set_option maxHeartbeats 800000 in
theorem Xor_any (w : World) (va vb : Value) (a b : List UInt8) (ha : Bs w va a) (hb : Bs w vb b) (hla : a.length ≤ 1000000000000) (hlb : b.length ≤ 1000000000000) :
    Calls Try.prog 20 #[va, vb] w (RetBs w (xorB a b)) := by
  obtain ⟨i0, hi, hz0, hz1, hz2⟩ := info_parts Try.infoB
  obtain ⟨A, ca, rfl, ha1, ha2, ha3⟩ := ha
  obtain ⟨B, cb, rfl, hb1, hb2, hb3⟩ := hb
  unfold maxLen at ha2 hb2
  by_cases hle : b.length < a.length
  · skip
    have hn : (xorB a b).length = b.length := by rw [xorB_length]; omega
    have HL := Lib.hid hn
    clear hn
    go_enter Try.func20, Try.ntmps20
    go_wp2_with (refine wpList_make_full _ rfl (.tmp 13) (.tmp 13) 23 rfl w.heap.size 5 i0 (.int .u8 0) 1 Try.underlying23 hi hz0 hz1 .i64 .i64 _ _ b.length rfl rfl rfl rfl (by rw [hz2]; omega) (by unfold maxLen; omega) (Nat.le_refl _) ?_; intro w1 hown hgrow)
    rw [made_zeros] at hown
    have hown0 : w1.ownsRow w.heap.size 5 1 (.slice (some ⟨w.heap.size, 0, none⟩) b.length b.length) b.length (cellsB (partly (xorB a b) 0)) := by
      rw [partly_zero, HL.out]; exact hown
    have hbel : Below w.heap.size w w1 := (Below.refl _ _).grown hgrow (Nat.le_refl _) (fun k h => by cases h)
    clear hown hgrow
    go_loopw [16] (fun i wr => ∃ k : Nat, k ≤ b.length ∧ i = .int .i64 k ∧ wr.ownsRow w.heap.size 5 1 (.slice (some ⟨w.heap.size, 0, none⟩) b.length b.length) b.length (cellsB (partly (xorB a b) k)) ∧ Below w.heap.size w wr) (fun i _ => b.length - (intOf i).toNat)
    case atStart => exact ⟨0, Nat.zero_le _, rfl, hown0, hbel⟩
    case round =>
      obtain ⟨k, hk, rfl, hown, hb⟩ := hrel
      clear hown0 hbel
      by_cases hlt : k < b.length
      · obtain ⟨b0, o0, rfl, hca⟩ := ha3 (by omega)
        obtain ⟨b1, o1, rfl, hcb⟩ := hb3 (by omega)
        have hc0 : wr.cell? ⟨b0, o0 + k, none⟩ = some (.int .u8 ((a[k]'(by omega)).toNat : Int)) := (hb.cell (p := ⟨b0, o0 + k, none⟩) (World.block_lt_of_cell? w _ (hca k (by omega)))).trans (hca k (by omega))
        have hc1 : wr.cell? ⟨b1, o1 + k, none⟩ = some (.int .u8 ((b[k]'(by omega)).toNat : Int)) := (hb.cell (p := ⟨b1, o1 + k, none⟩) (World.block_lt_of_cell? w _ (hcb k (by omega)))).trans (hcb k (by omega))
        have hfz := hown.frozenAt k
        obtain ⟨old, hcell⟩ := own_some hown k hlt
        have hput := own_put hown k ((xorB a b)[k]'(by rw [HL.out]; omega))
        have hx := xorB_get a b k (by rw [HL.out]; omega) (by omega) (by omega)
        rw [partly_step _ _ (by rw [HL.out]; omega), hx, ← xor_byte] at hput
        have HP := Lib.hid hput
        have HB := Lib.hid hb
        clear hput hown hb hca hcb ha3 hb3 hx
        go_wp2
        go_region
        all_goals
          go_wp2
          go_roundw
          case rel => exact ⟨k + 1, by omega, by go_num, HP.out, (HB.out.setCell (by simp) _).drew⟩
          case measure => simp [intOf]; omega
      · have hks : k = b.length := by omega
        have hown2 : wr.ownsRow w.heap.size 5 1 (.slice (some ⟨w.heap.size, 0, none⟩) b.length b.length) b.length (cellsB (xorB a b)) := by
          have := partly_all (xorB a b); rw [HL.out] at this; rw [hks, this] at hown; exact hown
        have HO := Lib.hid hown2
        have HB := Lib.hid hb
        clear hown2 hown hb hks
        go_wp2
        go_ret
        exact ⟨_, rfl, Bs.of_own HO.out, HB.out⟩
  · skip
    have hn : (xorB a b).length = a.length := by rw [xorB_length]; omega
    have HL := Lib.hid hn
    clear hn
    go_enter Try.func20, Try.ntmps20
    go_wp2_with (refine wpList_make_full _ rfl (.tmp 13) (.tmp 13) 23 rfl w.heap.size 5 i0 (.int .u8 0) 1 Try.underlying23 hi hz0 hz1 .i64 .i64 _ _ a.length rfl rfl rfl rfl (by rw [hz2]; omega) (by unfold maxLen; omega) (Nat.le_refl _) ?_; intro w1 hown hgrow)
    rw [made_zeros] at hown
    have hown0 : w1.ownsRow w.heap.size 5 1 (.slice (some ⟨w.heap.size, 0, none⟩) a.length a.length) a.length (cellsB (partly (xorB a b) 0)) := by
      rw [partly_zero, HL.out]; exact hown
    have hbel : Below w.heap.size w w1 := (Below.refl _ _).grown hgrow (Nat.le_refl _) (fun k h => by cases h)
    clear hown hgrow
    go_loopw [16] (fun i wr => ∃ k : Nat, k ≤ a.length ∧ i = .int .i64 k ∧ wr.ownsRow w.heap.size 5 1 (.slice (some ⟨w.heap.size, 0, none⟩) a.length a.length) a.length (cellsB (partly (xorB a b) k)) ∧ Below w.heap.size w wr) (fun i _ => a.length - (intOf i).toNat)
    case atStart => exact ⟨0, Nat.zero_le _, rfl, hown0, hbel⟩
    case round =>
      obtain ⟨k, hk, rfl, hown, hb⟩ := hrel
      clear hown0 hbel
      by_cases hlt : k < a.length
      · obtain ⟨b0, o0, rfl, hca⟩ := ha3 (by omega)
        obtain ⟨b1, o1, rfl, hcb⟩ := hb3 (by omega)
        have hc0 : wr.cell? ⟨b0, o0 + k, none⟩ = some (.int .u8 ((a[k]'(by omega)).toNat : Int)) := (hb.cell (p := ⟨b0, o0 + k, none⟩) (World.block_lt_of_cell? w _ (hca k (by omega)))).trans (hca k (by omega))
        have hc1 : wr.cell? ⟨b1, o1 + k, none⟩ = some (.int .u8 ((b[k]'(by omega)).toNat : Int)) := (hb.cell (p := ⟨b1, o1 + k, none⟩) (World.block_lt_of_cell? w _ (hcb k (by omega)))).trans (hcb k (by omega))
        have hfz := hown.frozenAt k
        obtain ⟨old, hcell⟩ := own_some hown k hlt
        have hput := own_put hown k ((xorB a b)[k]'(by rw [HL.out]; omega))
        have hx := xorB_get a b k (by rw [HL.out]; omega) (by omega) (by omega)
        rw [partly_step _ _ (by rw [HL.out]; omega), hx, ← xor_byte] at hput
        have HP := Lib.hid hput
        have HB := Lib.hid hb
        clear hput hown hb hca hcb ha3 hb3 hx
        go_wp2
        go_region
        all_goals
          go_wp2
          go_roundw
          case rel => exact ⟨k + 1, by omega, by go_num, HP.out, (HB.out.setCell (by simp) _).drew⟩
          case measure => simp [intOf]; omega
      · have hks : k = a.length := by omega
        have hown2 : wr.ownsRow w.heap.size 5 1 (.slice (some ⟨w.heap.size, 0, none⟩) a.length a.length) a.length (cellsB (xorB a b)) := by
          have := partly_all (xorB a b); rw [HL.out] at this; rw [hks, this] at hown; exact hown
        have HO := Lib.hid hown2
        have HB := Lib.hid hb
        clear hown2 hown hb hks
        go_wp2
        go_ret
        exact ⟨_, rfl, Bs.of_own HO.out, HB.out⟩

theorem xorB_take (a b : List UInt8) (k : Nat) (ha : k < a.length) (hb : k < b.length) : (xorB a b).take (k + 1) = (xorB a b).take k ++ [a[k] ^^^ b[k]] := by
  have h : k < (xorB a b).length := by rw [xorB_length]; omega
  rw [List.take_succ_eq_append_getElem h, xorB_get a b k h ha hb]

set_option maxHeartbeats 800000 in
theorem refXor_any (w : World) (va vb : Value) (a b : List UInt8) (ha : Bs w va a) (hb : Bs w vb b) (hla : a.length ≤ 1000000000000) (hlb : b.length ≤ 1000000000000) :
    Calls Try.prog 26 #[va, vb] w (RetBs w (xorB a b)) := by
  obtain ⟨A, ca, rfl, ha1, ha2, ha3⟩ := ha
  obtain ⟨B, cb, rfl, hb1, hb2, hb3⟩ := hb
  unfold maxLen at ha2 hb2
  have hxl := xorB_length a b
  have HL := Lib.hid hxl
  clear hxl
  go_enter Try.func26, Try.ntmps26
  go_wp2
  go_loopw [5, 6] (fun v i wr => ∃ k : Nat, k ≤ a.length ∧ k ≤ b.length ∧ i = .int .i64 k ∧ OwnB wr w.heap.size 5 v ((xorB a b).take k) ∧ Below w.heap.size w wr) (fun _ i _ => a.length - (intOf i).toNat)
  case atStart => exact ⟨0, Nat.zero_le _, Nat.zero_le _, rfl, OwnB.nil _ _ _, Below.refl _ _⟩
  case round =>
    obtain ⟨k, hk1, hk2, rfl, hown, hb⟩ := hrel
    have HO := Lib.hid hown
    have HB := Lib.hid hb
    have hsz := hb.size
    clear hown hb
    by_cases hlt : k < a.length ∧ k < b.length
    · obtain ⟨hlt1, hlt2⟩ := hlt
      obtain ⟨b0, o0, rfl, hca⟩ := ha3 (by omega)
      obtain ⟨b1, o1, rfl, hcb⟩ := hb3 (by omega)
      have hc0 : wr.cell? ⟨b0, o0 + k, none⟩ = some (.int .u8 ((a[k]'(by omega)).toNat : Int)) := (HB.out.cell (p := ⟨b0, o0 + k, none⟩) (World.block_lt_of_cell? w _ (hca k (by omega)))).trans (hca k (by omega))
      have hc1 : wr.cell? ⟨b1, o1 + k, none⟩ = some (.int .u8 ((b[k]'(by omega)).toNat : Int)) := (HB.out.cell (p := ⟨b1, o1 + k, none⟩) (World.block_lt_of_cell? w _ (hcb k (by omega)))).trans (hcb k (by omega))
      have HT := Lib.hid (xorB_take a b k hlt1 hlt2)
      clear hca hcb ha3 hb3
      go_wp2
      go_region_law (refine step_appB _ rfl (.tmp 19) (.tmp 29) 23 rfl w 5 Try.infoB Try.underlying23 _ _ ((xorB a b).take k) [a[k] ^^^ b[k]] rfl rfl (HO.out.alloc _) (Bs.lit1 _ _ _ _ (xor_byte _ _)) (by rw [List.length_take]; simp; omega) (HB.out.alloc hsz _).drew ?_; intro v2 w2 hown2 hb2)
      all_goals
        go_wp2
        go_roundw
        case rel => exact ⟨k + 1, by omega, by omega, by go_num, by rw [HT.out]; exact hown2, hb2⟩
        case measure => simp [intOf]; omega
    · have hfin : (xorB a b).take k = xorB a b := List.take_of_length_le (by rw [HL.out]; omega)
      have HO2 : Hid (OwnB wr w.heap.size 5 u5 (xorB a b)) := by have := HO.out; rwa [hfin] at this
      clear hfin
      by_cases hka : k < a.length
      · have hd : decide (k < b.length) = false := by simp; omega
        go_wp2
        go_ret
        exact ⟨_, rfl, HO2.out.bs, HB.out⟩
      · have hd : decide (k < a.length) = false := by simp; omega
        go_wp2
        go_ret
        exact ⟨_, rfl, HO2.out.bs, HB.out⟩

/-- What is gathered of the differences of the first k places (0 stands for what is not there). -/
def gathered (a b : List UInt8) : Nat → UInt8
  | 0 => 0
  | k + 1 => gathered a b k ||| (a.getD k 0 ^^^ b.getD k 0)
theorem or_eq_zero (x y : UInt8) : x ||| y = 0 ↔ x = 0 ∧ y = 0 := by
  constructor
  · intro h
    have h1 : x.toNat ||| y.toNat = 0 := by rw [← UInt8.toNat_or, h]; rfl
    have h2 := Nat.or_eq_zero_iff.1 h1
    exact ⟨UInt8.toNat_inj.1 (by simpa using h2.1), UInt8.toNat_inj.1 (by simpa using h2.2)⟩
  · rintro ⟨rfl, rfl⟩; rfl
theorem xor_eq_zero (x y : UInt8) : x ^^^ y = 0 ↔ x = y := UInt8.xor_eq_zero_iff
theorem gathered_zero (a b : List UInt8) (k : Nat) : gathered a b k = 0 ↔ ∀ j, j < k → a.getD j 0 = b.getD j 0 := by
  induction k with
  | zero => simp [gathered]
  | succ k ih =>
    rw [gathered, or_eq_zero, ih, xor_eq_zero]
    constructor
    · rintro ⟨h1, h2⟩ j hj
      rcases Nat.lt_succ_iff_lt_or_eq.1 hj with h | h
      · exact h1 j h
      · rw [h]; exact h2
    · intro h
      exact ⟨fun j hj => h j (by omega), h k (by omega)⟩
theorem gathered_same (a b : List UInt8) (hl : a.length = b.length) : gathered a b (max a.length b.length) = 0 ↔ a = b := by
  rw [gathered_zero]
  constructor
  · intro h
    apply List.ext_getElem hl
    intro j h1 h2
    have := h j (by omega)
    simpa [List.getD_eq_getElem?_getD, h1, h2] using this
  · rintro rfl j _
    rfl

theorem at_any (w : World) (va : Value) (a : List UInt8) (ha : Bs w va a) (i : Nat) (hm : i ≤ maxLen) :
    Calls Try.prog 33 #[va, .int .i64 (i : Int)] w fun e w' => e = .returned (.int .u8 ((a.getD i 0).toNat : Int)) ∧ w = w' := by
  by_cases h : i < a.length
  · rw [List.getD_eq_getElem?_getD, List.getElem?_eq_getElem h]
    exact at_in w va a ha i h
  · rw [List.getD_eq_getElem?_getD, List.getElem?_eq_none (by omega)]
    exact at_out w va a ha i (by omega) hm

set_option maxHeartbeats 800000 in
theorem Same_any (w : World) (va vb : Value) (a b : List UInt8) (ha : Bs w va a) (hb : Bs w vb b) :
    Calls Try.prog 21 #[va, vb] w fun e w' => e = .returned (.bool (a == b)) ∧ w = w' := by
  have HA := Lib.hid ha
  have HBb := Lib.hid hb
  obtain ⟨A, ca, rfl, ha1, ha2, ha3⟩ := ha
  obtain ⟨B, cb, rfl, hb1, hb2, hb3⟩ := hb
  unfold maxLen at ha2 hb2
  clear ha3 hb3
  have hmax : max a.length b.length ≤ 9223372036854775807 := by omega
  by_cases hle : a.length < b.length
  all_goals
    go_enter Try.func21, Try.ntmps21
    go_wp2
    go_loop [5, 12] (fun d i => ∃ (k : Nat) (g : UInt8), k ≤ max a.length b.length ∧ i = .int .i64 k ∧ g = gathered a b k ∧ d = .int .u8 (g.toNat : Int)) (fun _ i => max a.length b.length - (intOf i).toNat)
    case atStart => exact ⟨0, 0, Nat.zero_le _, rfl, rfl, rfl⟩
    case round =>
      obtain ⟨k, g, hk, rfl, hg, rfl⟩ := hrel
      have HG := Lib.hid hg
      have hg8 := g.toNat_lt
      clear hg
      by_cases hlt : k < max a.length b.length
      · go_wp2_with fail
        refine (at_any _ _ a HA.out k (by unfold maxLen; omega)).mono ?_
        rintro e w' ⟨rfl, rfl⟩
        have hd1 := (a.getD k 0).toNat_lt
        go_wp2_with fail
        refine (at_any _ _ b HBb.out k (by unfold maxLen; omega)).mono ?_
        rintro e w' ⟨rfl, rfl⟩
        have hd2 := (b.getD k 0).toNat_lt
        go_wp2
        go_round
        case rel => exact ⟨k + 1, gathered a b (k + 1), by omega, by go_num, rfl, by rw [gathered, ← or_byte, ← xor_byte, HG.out]; first | (simp [show k < b.length by omega]; done) | (simp [show k < a.length by omega]; done)⟩
        case measure => simp [intOf]; omega
      · have hks : k = max a.length b.length := by omega
        by_cases hl : a.length = b.length
        · have hl1 : ((a.length : Int) == (b.length : Int)) = true := by simp [hl]
          by_cases hz : g = 0
          · have hz1 : ((g.toNat : Int) == 0) = true := by rw [hz]; rfl
            have hfin : (a == b) = true := by
              rw [beq_iff_eq, ← gathered_same a b hl, ← hks, ← HG.out, hz]
            have Hf := Lib.hid hfin
            clear hfin hl hz hks
            go_wp2
            go_ret
            exact ⟨by rw [Hf.out]; rfl, rfl⟩
          · have hz1 : ((g.toNat : Int) == 0) = false := by
              rw [beq_eq_false_iff_ne]; intro h; exact hz (UInt8.toNat_inj.1 (by simpa using h))
            have hfin : (a == b) = false := by
              rw [beq_eq_false_iff_ne]; intro h; rw [← gathered_same a b hl, ← hks, ← HG.out] at h; exact hz h
            have Hf := Lib.hid hfin
            clear hfin hl hz hks
            go_wp2
            go_ret
            exact ⟨by rw [Hf.out]; rfl, rfl⟩
        · have hl1 : ((a.length : Int) == (b.length : Int)) = false := by rw [beq_eq_false_iff_ne]; omega
          have hfin : (a == b) = false := by
            rw [beq_eq_false_iff_ne]; rintro rfl; exact hl rfl
          have Hf := Lib.hid hfin
          clear hfin hl hks
          by_cases hz : ((g.toNat : Int) == 0) = true
          · go_wp2
            go_ret
            exact ⟨by rw [Hf.out]; rfl, rfl⟩
          · have hz1 : ((g.toNat : Int) == 0) = false := by simpa using hz
            clear hz
            go_wp2
            go_ret
            exact ⟨by rw [Hf.out]; rfl, rfl⟩
end Go.Proofs.Ytemjlolpbbcclaa
