/-
  The document's numbers held against one another. Conditions: they are below p.
-/
import Derived.Test.YtejingggfbmbjaaFieldRefH
import Derived.Test.YtejingggfbmbjaaFieldM
namespace Go.Proofs.Ytejingggfbmbjaa
open Go.RowKit

theorem Try.eqNumIn (a b : List Nat) (ha : a.length = 16) (hb : b.length = 16) (w : World) :
    (Op.equalIn 10000 33 (.agg (natsC a)) (.agg (natsC b))).run Try.prog w = .ok (a == b) w :=
  nats_eqIn w 9998 33 24 16 Try.underlying33 Try.underlying24 Try.sizeOfU64 a b ha hb
theorem Try.eqGuardNum : Try.prog.eqGuardType Try.prog.depth 33 = false := by kernel_rfl
theorem num_eq (a b : Nat) (ha : a < pF) (hb : b < pF) : (digR 16 a == digR 16 b) = (a == b) := by
  rw [Bool.eq_iff_iff, beq_iff_eq, beq_iff_eq]
  exact ⟨fun h => digR_inj (Nat.lt_trans ha pF_lt16) (Nat.lt_trans hb pF_lt16) h, fun h => by rw [h]⟩
theorem num_zero (a : Nat) (ha : a < pF) : (digR 16 a == zero16) = (a == 0) := by
  rw [show zero16 = digR 16 0 by decide, num_eq a 0 ha (by decide)]
end Go.Proofs.Ytejingggfbmbjaa
