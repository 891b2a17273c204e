/-
  What two share. Conditions: keys have thirty-two bytes.
-/
import Derived.Test.YtpgjcmccfpjmoaaLadderK
import Derived.Test.YtpgjcmccfpjmoaaLadderI
namespace Go.Proofs.Ytpgjcmccfpjmoaa
open Go.RowKit
set_option linter.unusedVariables false
set_option maxRecDepth 20000

theorem raw_whole (s p : List UInt8) : ofLowB (rawK s p) < pF := by
  unfold rawK
  have h := multN_lt (clampK s) (numK p)
  rw [ofLowB_lowB, Nat.mod_eq_of_lt (Nat.lt_trans h (by decide))]
  exact h
theorem shared_not (a b : List UInt8) (ha : a.length = 32) (hb : b.length = 32) : rawK a (rawK b nineK) ≠ zeroKey := fun h => by
  have h1 := congrArg numK h
  rw [num_raw, num_raw, nine_num, show numK zeroKey = 0 by decide +kernel] at h1
  exact shared_ne a b ha hb h1
theorem shared_K (a b : List UInt8) : multK a (rawK b nineK) = rawK a (rawK b nineK) := if_pos (raw_whole _ _)
theorem shared_E (a b : List UInt8) (ha : a.length = 32) (hb : b.length = 32) : multE a (rawK b nineK) = 0 := by
  unfold multE
  rw [if_pos (raw_whole _ _), if_neg (shared_not a b ha hb)]
end Go.Proofs.Ytpgjcmccfpjmoaa
