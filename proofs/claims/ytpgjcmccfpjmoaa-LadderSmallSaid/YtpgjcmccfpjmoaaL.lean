/-
  Contracts on keys: the document's answers. Conditions: as each theorem names them.
-/
import Derived.Test.YtpgjcmccfpjmoaaK
namespace Go.Proofs.Ytpgjcmccfpjmoaa
open Go.RowKit
set_option linter.unusedVariables false

theorem keyC_put (l : List UInt8) (i : Nat) (b : UInt8) : (keyC l).setIfInBounds i (.int .u8 (b.toNat : Int)) = keyC (l.set i b) := by
  unfold keyC
  rw [← cellsB_set]
  simp
theorem keyC_cell {w : World} {g : Nat} {t : TypeId} {l : List UInt8} (h : RowAt w g t (keyC l)) (i : Nat) (hi : i < l.length) : w.cell? ⟨g, i, none⟩ = some (.int .u8 (l[i].toNat : Int)) := by
  rw [h.cell i]
  have := cellsB_get l i hi
  simpa [keyC] using this
theorem Try.buildK (w : World) : (Instr.build 23 #[]).run Try.prog w = .ok (keyV zeroKey) w := by kernel_rfl





end Go.Proofs.Ytpgjcmccfpjmoaa

