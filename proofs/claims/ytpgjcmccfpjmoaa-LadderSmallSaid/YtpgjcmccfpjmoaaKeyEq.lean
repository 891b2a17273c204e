/-
  Keys held against one another. Conditions: both have thirty-two bytes.
-/
import Derived.Test.YtpgjcmccfpjmoaaL
import Derived.Stop.BytesEq
namespace Go.Proofs.Ytpgjcmccfpjmoaa
open Go.RowKit

theorem Try.sizeOfB (w : World) : (sizeOf 5).run Try.prog w = .ok 1 w := by kernel_rfl
theorem Try.eqKeyIn (a b : List UInt8) (ha : a.length = 32) (hb : b.length = 32) (w : World) :
    (Op.equalIn 10000 23 (.agg (keyC a)) (.agg (keyC b))).run Try.prog w = .ok (a == b) w :=
  run_equalIn_bytes w 9998 23 5 32 Try.underlying23 Try.underlying5 Try.sizeOfB a b ha hb
theorem Try.eqGuardKey : Try.prog.eqGuardType Try.prog.depth 23 = false := by kernel_rfl
theorem zeroLit : (#[.int .u8 0, .int .u8 0, .int .u8 0, .int .u8 0, .int .u8 0, .int .u8 0, .int .u8 0, .int .u8 0, .int .u8 0, .int .u8 0, .int .u8 0, .int .u8 0, .int .u8 0, .int .u8 0, .int .u8 0, .int .u8 0, .int .u8 0, .int .u8 0, .int .u8 0, .int .u8 0, .int .u8 0, .int .u8 0, .int .u8 0, .int .u8 0, .int .u8 0, .int .u8 0, .int .u8 0, .int .u8 0, .int .u8 0, .int .u8 0, .int .u8 0, .int .u8 0] : Array Value) = keyC zeroKey := rfl
theorem Try.eqZeroIn (w : World) : (Op.equalIn 10000 23 (.agg (keyC zeroKey)) (.agg #[.int .u8 0, .int .u8 0, .int .u8 0, .int .u8 0, .int .u8 0, .int .u8 0, .int .u8 0, .int .u8 0, .int .u8 0, .int .u8 0, .int .u8 0, .int .u8 0, .int .u8 0, .int .u8 0, .int .u8 0, .int .u8 0, .int .u8 0, .int .u8 0, .int .u8 0, .int .u8 0, .int .u8 0, .int .u8 0, .int .u8 0, .int .u8 0, .int .u8 0, .int .u8 0, .int .u8 0, .int .u8 0, .int .u8 0, .int .u8 0, .int .u8 0, .int .u8 0])).run Try.prog w = .ok true w := by
  rw [zeroLit, Try.eqKeyIn zeroKey zeroKey zeroKey_length zeroKey_length w, beq_self_eq_true]
end Go.Proofs.Ytpgjcmccfpjmoaa
