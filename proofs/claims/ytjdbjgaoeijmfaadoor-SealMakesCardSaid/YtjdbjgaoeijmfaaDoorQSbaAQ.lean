/-
  Texts that belong together, merged: SealRefI, KeyEq. Conditions: as each theorem names them.
-/
import Derived.Test.YtjdbjgaoeijmfaaDoorQSbaAM
import Derived.Test.YtjdbjgaoeijmfaaDoorQSbaAI
import Derived.Stop.BytesEq
section
namespace Go.Proofs.YtjdbjgaoeijmfaaDoor
open Go.RowKit
set_option linter.unusedVariables false
set_option maxRecDepth 20000

set_option maxHeartbeats 1000000 in
theorem refSeal_long (w : World) (M : Value) (key : List UInt8) (va vt : Value) (aside text : List UInt8) (ha : Bs w va aside) (ht : Bs w vt text) (h : 4000 < aside.length ∨ 4000 < text.length) :
    Calls Tryd.prog 10 #[M, keyV key, va, vt] w fun e x => e = .returned (.tuple #[.slice none 0 0, .int .i64 2]) ∧ Below w.heap.size w x := by
  obtain ⟨AA, ac, rfl, _, _, _⟩ := ha
  obtain ⟨TA, tc, rfl, _, _, _⟩ := ht
  by_cases h1 : 4000 < aside.length
  · have d1 : decide ((4000 : Int) < (aside.length : Int)) = true := by simp; omega
    clear h h1
    go_enter Tryd.func10, Tryd.ntmps10
    go_wp2_with ((with_reducible refine wpList_box_row (o := ⟨some 5, _, _, _, _, _⟩) rfl 23 (.tmp 1) rfl (keyC key) (by with_unfolding_all rfl) ?_); intro g5 w1 n1)
    go_ret2
    exact ⟨rfl, n1.below⟩
  · have d1 : decide ((4000 : Int) < (aside.length : Int)) = false := by simp; omega
    have d2 : decide ((4000 : Int) < (text.length : Int)) = true := by simp; omega
    clear h h1
    go_enter Tryd.func10, Tryd.ntmps10
    go_wp2_with ((with_reducible refine wpList_box_row (o := ⟨some 5, _, _, _, _, _⟩) rfl 23 (.tmp 1) rfl (keyC key) (by with_unfolding_all rfl) ?_); intro g5 w1 n1)
    go_ret2
    exact ⟨rfl, n1.below⟩
set_option maxHeartbeats 1000000 in
theorem refOpen_long (w : World) (M : Value) (key : List UInt8) (va vt : Value) (aside box : List UInt8) (ha : Bs w va aside) (ht : Bs w vt box) (h : 4000 < aside.length ∨ 4032 < box.length) :
    Calls Tryd.prog 15 #[M, keyV key, va, vt] w fun e x => e = .returned (.tuple #[.slice none 0 0, .int .i64 2]) ∧ Below w.heap.size w x := by
  obtain ⟨AA, ac, rfl, _, _, _⟩ := ha
  obtain ⟨TA, tc, rfl, _, _, _⟩ := ht
  by_cases h1 : 4000 < aside.length
  · have d1 : decide ((4000 : Int) < (aside.length : Int)) = true := by simp; omega
    clear h h1
    go_enter Tryd.func15, Tryd.ntmps15
    go_wp2_with ((with_reducible refine wpList_box_row (o := ⟨some 5, _, _, _, _, _⟩) rfl 23 (.tmp 1) rfl (keyC key) (by with_unfolding_all rfl) ?_); intro g5 w1 n1)
    go_ret2
    exact ⟨rfl, n1.below⟩
  · have d1 : decide ((4000 : Int) < (aside.length : Int)) = false := by simp; omega
    have d2 : decide ((4032 : Int) < (box.length : Int)) = true := by simp; omega
    clear h h1
    go_enter Tryd.func15, Tryd.ntmps15
    go_wp2_with ((with_reducible refine wpList_box_row (o := ⟨some 5, _, _, _, _, _⟩) rfl 23 (.tmp 1) rfl (keyC key) (by with_unfolding_all rfl) ?_); intro g5 w1 n1)
    go_ret2
    exact ⟨rfl, n1.below⟩
set_option maxHeartbeats 1000000 in
theorem refOpen_short (w : World) (M : Value) (key : List UInt8) (va vt : Value) (aside box : List UInt8) (ha : Bs w va aside) (ht : Bs w vt box) (h1 : aside.length ≤ 4000) (h2 : box.length < 32) :
    Calls Tryd.prog 15 #[M, keyV key, va, vt] w fun e x => e = .returned (.tuple #[.slice none 0 0, .int .i64 3]) ∧ Below w.heap.size w x := by
  obtain ⟨AA, ac, rfl, _, _, _⟩ := ha
  obtain ⟨TA, tc, rfl, _, _, _⟩ := ht
  have d1 : decide ((4000 : Int) < (aside.length : Int)) = false := by simp; omega
  have d2 : decide ((4032 : Int) < (box.length : Int)) = false := by simp; omega
  have d3 : decide ((box.length : Int) < 32) = true := by simp; omega
  clear h1 h2
  go_enter Tryd.func15, Tryd.ntmps15
  go_wp2_with ((with_reducible refine wpList_box_row (o := ⟨some 5, _, _, _, _, _⟩) rfl 23 (.tmp 1) rfl (keyC key) (by with_unfolding_all rfl) ?_); intro g5 w1 n1)
  go_ret2
  exact ⟨rfl, n1.below⟩
end Go.Proofs.YtjdbjgaoeijmfaaDoor
end
section
namespace Go.Proofs.YtjdbjgaoeijmfaaDoor
open Go.RowKit

theorem Tryd.sizeOfB (w : World) : (sizeOf 5).run Tryd.prog w = .ok 1 w := by kernel_rfl
theorem Tryd.eqKeyIn (a b : List UInt8) (ha : a.length = 32) (hb : b.length = 32) (w : World) :
    (Op.equalIn 10000 23 (.agg (keyC a)) (.agg (keyC b))).run Tryd.prog w = .ok (a == b) w :=
  run_equalIn_bytes w 9998 23 5 32 Tryd.underlying23 Tryd.underlying5 Tryd.sizeOfB a b ha hb
theorem Tryd.eqGuardKey : Tryd.prog.eqGuardType Tryd.prog.depth 23 = false := by kernel_rfl
theorem zeroLit : (#[.int .u8 0, .int .u8 0, .int .u8 0, .int .u8 0, .int .u8 0, .int .u8 0, .int .u8 0, .int .u8 0, .int .u8 0, .int .u8 0, .int .u8 0, .int .u8 0, .int .u8 0, .int .u8 0, .int .u8 0, .int .u8 0, .int .u8 0, .int .u8 0, .int .u8 0, .int .u8 0, .int .u8 0, .int .u8 0, .int .u8 0, .int .u8 0, .int .u8 0, .int .u8 0, .int .u8 0, .int .u8 0, .int .u8 0, .int .u8 0, .int .u8 0, .int .u8 0] : Array Value) = keyC zeroKey := rfl
theorem Tryd.eqZeroIn (w : World) : (Op.equalIn 10000 23 (.agg (keyC zeroKey)) (.agg #[.int .u8 0, .int .u8 0, .int .u8 0, .int .u8 0, .int .u8 0, .int .u8 0, .int .u8 0, .int .u8 0, .int .u8 0, .int .u8 0, .int .u8 0, .int .u8 0, .int .u8 0, .int .u8 0, .int .u8 0, .int .u8 0, .int .u8 0, .int .u8 0, .int .u8 0, .int .u8 0, .int .u8 0, .int .u8 0, .int .u8 0, .int .u8 0, .int .u8 0, .int .u8 0, .int .u8 0, .int .u8 0, .int .u8 0, .int .u8 0, .int .u8 0, .int .u8 0])).run Tryd.prog w = .ok true w := by
  rw [zeroLit, Tryd.eqKeyIn zeroKey zeroKey zeroKey_length zeroKey_length w, beq_self_eq_true]
end Go.Proofs.YtjdbjgaoeijmfaaDoor
end
