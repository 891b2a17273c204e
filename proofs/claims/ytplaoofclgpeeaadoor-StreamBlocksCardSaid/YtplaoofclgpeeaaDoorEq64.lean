/-
  Two arrays of sixty-four bytes held against one another, as one operation. Conditions: both hold the same.
-/
import Derived.Test.YtplaoofclgpeeaaDoorArrEq
import Derived.Test.YtplaoofclgpeeaaDoorStreamB
namespace Go.Proofs.YtplaoofclgpeeaaDoor
open Go.RowKit
set_option linter.unusedVariables false
set_option maxRecDepth 20000

theorem Tryd.sizeOf8 (w : World) : (sizeOf 5).run Tryd.prog w = .ok 1 w := by kernel_rfl
theorem Tryd.eq64In (a b : List UInt8) (ha : a.length = 64) (hb : b.length = 64) (w : World) :
    (Op.equalIn 10000 31 (.agg (keyC a)) (.agg (keyC b))).run Tryd.prog w = .ok (a == b) w :=
  bytes_eqIn w 9998 _ _ 64 Tryd.underlying31 Tryd.underlying5 Tryd.sizeOf8 a b ha hb
theorem Tryd.eqGuard64 : Tryd.prog.eqGuardType Tryd.prog.depth 31 = false := by kernel_rfl
theorem eq64_run {o : Oper} {a : Act} {W : World} (x y : Operand) (rt : TypeId) (ho : o.op = .binOp .eql 31 x y rt) (bl : List UInt8) (hl : bl.length = 64) (hx : a.eval x = .agg (keyC bl)) (hy : a.eval y = .agg (keyC bl)) :
    (execOp a.eval o).run Tryd.prog W = .ok (.value (.bool true)) W := by
  have he := Tryd.eq64In bl bl hl hl
  rw [beq_self_eq_true] at he
  have hgd := Tryd.eqGuard64
  unfold execOp
  simp only [ho, hx, hy]
  generalize keyC bl = z at *
  go_simp

end Go.Proofs.YtplaoofclgpeeaaDoor
