/-
  Contracts of octets' and cablegramref01's functions that mix and compare bytes. Conditions: as each theorem names them.
-/
import Derived.Test.YtplaoofclgpeeaaDoorB
import Derived.Deep.RegionLaw
namespace Go.Proofs.YtplaoofclgpeeaaDoor
open Go.RowKit
set_option linter.unusedVariables false
set_option maxRecDepth 20000

theorem xor_byte (a b : UInt8) : bits .xor .u8 (a.toNat : Int) (b.toNat : Int) = ((a ^^^ b).toNat : Int) := by
  rw [u8_xor_nat _ _ a.toNat_lt b.toNat_lt, UInt8.toNat_xor]
theorem or_byte (a b : UInt8) : bits .or .u8 (a.toNat : Int) (b.toNat : Int) = ((a ||| b).toNat : Int) := by
  rw [u8_or_nat _ _ a.toNat_lt b.toNat_lt, UInt8.toNat_or]

set_option maxHeartbeats 800000 in
theorem Xor_any (w : World) (va vb : Value) (a b : List UInt8) (ha : Bs w va a) (hb : Bs w vb b) (hla : a.length ≤ 1000000000000) (hlb : b.length ≤ 1000000000000) :
    Calls Tryd.prog 23 #[va, vb] w (RetBs w (xorB a b)) := by
  obtain ⟨i0, hi, hz0, hz1, hz2⟩ := info_parts Tryd.infoB
  obtain ⟨A, ca, rfl, ha1, ha2, ha3⟩ := ha
  obtain ⟨B, cb, rfl, hb1, hb2, hb3⟩ := hb
  unfold maxLen at ha2 hb2
  by_cases hle : b.length < a.length
  · skip
    have hn : (xorB a b).length = b.length := by rw [xorB_length]; omega
    have HL := Lib.hid hn
    clear hn
    go_enter Tryd.func23, Tryd.ntmps23
    go_wp2_with (refine wpList_make_full _ rfl (.tmp 13) (.tmp 13) 34 rfl w.heap.size 5 i0 (.int .u8 0) 1 Tryd.underlying34 hi hz0 hz1 .i64 .i64 _ _ b.length rfl rfl rfl rfl (by rw [hz2]; omega) (by unfold maxLen; omega) (Nat.le_refl _) ?_; intro w1 hown hgrow)
    rw [made_zeros] at hown
    have hown0 : w1.ownsRow w.heap.size 5 1 (.slice (some ⟨w.heap.size, 0, none⟩) b.length b.length) b.length (cellsB (partly (xorB a b) 0)) := by
      rw [partly_zero, HL.out]; exact hown
    have hbel : Below w.heap.size w w1 := (Below.refl _ _).grown hgrow (Nat.le_refl _) (fun k h => by cases h)
    clear hown hgrow
    go_loopw [16] (fun i wr => ∃ k : Nat, k ≤ b.length ∧ i = .int .i64 k ∧ wr.ownsRow w.heap.size 5 1 (.slice (some ⟨w.heap.size, 0, none⟩) b.length b.length) b.length (cellsB (partly (xorB a b) k)) ∧ Below w.heap.size w wr) (fun i _ => b.length - (intOf i).toNat)
    case atStart => exact ⟨0, Nat.zero_le _, rfl, hown0, hbel⟩
    case round =>
      obtain ⟨k, hk, rfl, hown, hb⟩ := hrel
      clear hown0 hbel
      by_cases hlt : k < b.length
      · obtain ⟨b0, o0, rfl, hca⟩ := ha3 (by omega)
        obtain ⟨b1, o1, rfl, hcb⟩ := hb3 (by omega)
        have hc0 : wr.cell? ⟨b0, o0 + k, none⟩ = some (.int .u8 ((a[k]'(by omega)).toNat : Int)) := (hb.cell (p := ⟨b0, o0 + k, none⟩) (World.block_lt_of_cell? w _ (hca k (by omega)))).trans (hca k (by omega))
        have hc1 : wr.cell? ⟨b1, o1 + k, none⟩ = some (.int .u8 ((b[k]'(by omega)).toNat : Int)) := (hb.cell (p := ⟨b1, o1 + k, none⟩) (World.block_lt_of_cell? w _ (hcb k (by omega)))).trans (hcb k (by omega))
        have hfz := hown.frozenAt k
        obtain ⟨old, hcell⟩ := own_some hown k hlt
        have hput := own_put hown k ((xorB a b)[k]'(by rw [HL.out]; omega))
        have hx := xorB_get a b k (by rw [HL.out]; omega) (by omega) (by omega)
        rw [partly_step _ _ (by rw [HL.out]; omega), hx, ← xor_byte] at hput
        have HP := Lib.hid hput
        have HB := Lib.hid hb
        clear hput hown hb hca hcb ha3 hb3 hx
        go_wp2
        go_region
        all_goals
          go_wp2
          go_roundw
          case rel => exact ⟨k + 1, by omega, by go_num, HP.out, (HB.out.setCell (by simp) _).drew⟩
          case measure => simp [intOf]; omega
      · have hks : k = b.length := by omega
        have hown2 : wr.ownsRow w.heap.size 5 1 (.slice (some ⟨w.heap.size, 0, none⟩) b.length b.length) b.length (cellsB (xorB a b)) := by
          have := partly_all (xorB a b); rw [HL.out] at this; rw [hks, this] at hown; exact hown
        have HO := Lib.hid hown2
        have HB := Lib.hid hb
        clear hown2 hown hb hks
        go_wp2
        go_ret
        exact ⟨_, rfl, Bs.of_own HO.out, HB.out⟩
  · skip
    have hn : (xorB a b).length = a.length := by rw [xorB_length]; omega
    have HL := Lib.hid hn
    clear hn
    go_enter Tryd.func23, Tryd.ntmps23
    go_wp2_with (refine wpList_make_full _ rfl (.tmp 13) (.tmp 13) 34 rfl w.heap.size 5 i0 (.int .u8 0) 1 Tryd.underlying34 hi hz0 hz1 .i64 .i64 _ _ a.length rfl rfl rfl rfl (by rw [hz2]; omega) (by unfold maxLen; omega) (Nat.le_refl _) ?_; intro w1 hown hgrow)
    rw [made_zeros] at hown
    have hown0 : w1.ownsRow w.heap.size 5 1 (.slice (some ⟨w.heap.size, 0, none⟩) a.length a.length) a.length (cellsB (partly (xorB a b) 0)) := by
      rw [partly_zero, HL.out]; exact hown
    have hbel : Below w.heap.size w w1 := (Below.refl _ _).grown hgrow (Nat.le_refl _) (fun k h => by cases h)
    clear hown hgrow
    go_loopw [16] (fun i wr => ∃ k : Nat, k ≤ a.length ∧ i = .int .i64 k ∧ wr.ownsRow w.heap.size 5 1 (.slice (some ⟨w.heap.size, 0, none⟩) a.length a.length) a.length (cellsB (partly (xorB a b) k)) ∧ Below w.heap.size w wr) (fun i _ => a.length - (intOf i).toNat)
    case atStart => exact ⟨0, Nat.zero_le _, rfl, hown0, hbel⟩
    case round =>
      obtain ⟨k, hk, rfl, hown, hb⟩ := hrel
      clear hown0 hbel
      by_cases hlt : k < a.length
      · obtain ⟨b0, o0, rfl, hca⟩ := ha3 (by omega)
        obtain ⟨b1, o1, rfl, hcb⟩ := hb3 (by omega)
        have hc0 : wr.cell? ⟨b0, o0 + k, none⟩ = some (.int .u8 ((a[k]'(by omega)).toNat : Int)) := (hb.cell (p := ⟨b0, o0 + k, none⟩) (World.block_lt_of_cell? w _ (hca k (by omega)))).trans (hca k (by omega))
        have hc1 : wr.cell? ⟨b1, o1 + k, none⟩ = some (.int .u8 ((b[k]'(by omega)).toNat : Int)) := (hb.cell (p := ⟨b1, o1 + k, none⟩) (World.block_lt_of_cell? w _ (hcb k (by omega)))).trans (hcb k (by omega))
        have hfz := hown.frozenAt k
        obtain ⟨old, hcell⟩ := own_some hown k hlt
        have hput := own_put hown k ((xorB a b)[k]'(by rw [HL.out]; omega))
        have hx := xorB_get a b k (by rw [HL.out]; omega) (by omega) (by omega)
        rw [partly_step _ _ (by rw [HL.out]; omega), hx, ← xor_byte] at hput
        have HP := Lib.hid hput
        have HB := Lib.hid hb
        clear hput hown hb hca hcb ha3 hb3 hx
        go_wp2
        go_region
        all_goals
          go_wp2
          go_roundw
          case rel => exact ⟨k + 1, by omega, by go_num, HP.out, (HB.out.setCell (by simp) _).drew⟩
          case measure => simp [intOf]; omega
      · have hks : k = a.length := by omega
        have hown2 : wr.ownsRow w.heap.size 5 1 (.slice (some ⟨w.heap.size, 0, none⟩) a.length a.length) a.length (cellsB (xorB a b)) := by
          have := partly_all (xorB a b); rw [HL.out] at this; rw [hks, this] at hown; exact hown
        have HO := Lib.hid hown2
        have HB := Lib.hid hb
        clear hown2 hown hb hks
        go_wp2
        go_ret
        exact ⟨_, rfl, Bs.of_own HO.out, HB.out⟩

theorem xorB_take (a b : List UInt8) (k : Nat) (ha : k < a.length) (hb : k < b.length) : (xorB a b).take (k + 1) = (xorB a b).take k ++ [a[k] ^^^ b[k]] := by
  have h : k < (xorB a b).length := by rw [xorB_length]; omega
  rw [List.take_succ_eq_append_getElem h, xorB_get a b k h ha hb]


/-- What is gathered of the differences of the first k places (0 stands for what is not there). -/
def gathered (a b : List UInt8) : Nat → UInt8
  | 0 => 0
  | k + 1 => gathered a b k ||| (a.getD k 0 ^^^ b.getD k 0)
theorem or_eq_zero (x y : UInt8) : x ||| y = 0 ↔ x = 0 ∧ y = 0 := by
  constructor
  · intro h
    have h1 : x.toNat ||| y.toNat = 0 := by rw [← UInt8.toNat_or, h]; rfl
    have h2 := Nat.or_eq_zero_iff.1 h1
    exact ⟨UInt8.toNat_inj.1 (by simpa using h2.1), UInt8.toNat_inj.1 (by simpa using h2.2)⟩
  · rintro ⟨rfl, rfl⟩; rfl
theorem xor_eq_zero (x y : UInt8) : x ^^^ y = 0 ↔ x = y := UInt8.xor_eq_zero_iff
theorem gathered_zero (a b : List UInt8) (k : Nat) : gathered a b k = 0 ↔ ∀ j, j < k → a.getD j 0 = b.getD j 0 := by
  induction k with
  | zero => simp [gathered]
  | succ k ih =>
    rw [gathered, or_eq_zero, ih, xor_eq_zero]
    constructor
    · rintro ⟨h1, h2⟩ j hj
      rcases Nat.lt_succ_iff_lt_or_eq.1 hj with h | h
      · exact h1 j h
      · rw [h]; exact h2
    · intro h
      exact ⟨fun j hj => h j (by omega), h k (by omega)⟩
theorem gathered_same (a b : List UInt8) (hl : a.length = b.length) : gathered a b (max a.length b.length) = 0 ↔ a = b := by
  rw [gathered_zero]
  constructor
  · intro h
    apply List.ext_getElem hl
    intro j h1 h2
    have := h j (by omega)
    simpa [List.getD_eq_getElem?_getD, h1, h2] using this
  · rintro rfl j _
    rfl


end Go.Proofs.YtplaoofclgpeeaaDoor

