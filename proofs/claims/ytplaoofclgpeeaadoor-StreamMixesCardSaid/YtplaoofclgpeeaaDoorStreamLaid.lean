/-
  What the rows' list of tables gives the walks: the table of quarters; and a world for the witness. Conditions: none.
-/
import Derived.Test.YtplaoofclgpeeaaDoorCards
import Derived.Test.YtplaoofclgpeeaaDoorTie
import Derived.Test.YtplaoofclgpeeaaDoorOpen
import Derived.Test.YtplaoofclgpeeaaDoorStreamC
import Derived.ProofKit
import Derived.ShutString
namespace Go.Proofs.YtplaoofclgpeeaaDoor
open Go.RowKit
set_option linter.unusedVariables false
set_option maxRecDepth 100000

theorem gQuarters : Tryd.prog.globalNamed "cablegram/stream.quarters" = some 0 := by kernel_rfl
theorem gQuartersType : (Tryd.prog.globals[0]?).map (·.type) = some 45 := by kernel_rfl
theorem cellsQ1 : Tryd.prog.cellsOf 3 = 1 := by kernel_rfl
theorem cellsQ4 : Tryd.prog.cellsOf 44 = 4 := by kernel_rfl
theorem cellsQ32 : Tryd.prog.cellsOf 45 = 8 * 4 := by kernel_rfl
def quartersI : List (List Int) := [[0, 4, 8, 12], [1, 5, 9, 13], [2, 6, 10, 14], [3, 7, 11, 15], [0, 5, 10, 15], [1, 6, 11, 12], [2, 7, 8, 13], [3, 4, 9, 14]]
theorem quartersC_eq : (quartersI.flatten.map fun z => Value.int .i64 z).toArray = quartersC := by rfl

theorem tables {W : World} (h : laidMetH Tryd.prog Rows.streamTurnsRow.laid W) : Quar W := by
  obtain ⟨ps, ⟨g', t', cs, fuel, p, q, hg', ht', hvar, hd, _, _⟩, _⟩ : laidMet Tryd.prog [("cablegram/stream.quarters", Rows.laid_cablegram_stream_quarters)] W := h
  obtain rfl := Option.some.inj (gQuarters.symm.trans hg')
  obtain rfl := Option.some.inj (gQuartersType.symm.trans ht')
  have hc := cells_of_rows (rows := quartersI) Tryd.underlying45 Tryd.underlying44 Tryd.underlying3 cellsQ1 cellsQ4 cellsQ32 rfl hd
  refine TabAt.of_var gQuarters ?_
  rw [hvar, ← quartersC_eq, ← hc]

/-- A world for a witness: the settled one, the table holding what its initialiser lays. -/
noncomputable def laidWorld (os : Os) : World :=
  { World.holding Tryd.prog os ⟨#[], #[], []⟩ with heap := (World.holding Tryd.prog os ⟨#[], #[], []⟩).heap.modify 0 fun
      | .cells _ t frozen => .cells #[.int .i64 0, .int .i64 4, .int .i64 8, .int .i64 12, .int .i64 1, .int .i64 5, .int .i64 9, .int .i64 13, .int .i64 2, .int .i64 6, .int .i64 10, .int .i64 14, .int .i64 3, .int .i64 7, .int .i64 11, .int .i64 15, .int .i64 0, .int .i64 5, .int .i64 10, .int .i64 15, .int .i64 1, .int .i64 6, .int .i64 11, .int .i64 12, .int .i64 2, .int .i64 7, .int .i64 8, .int .i64 13, .int .i64 3, .int .i64 4, .int .i64 9, .int .i64 14] t frozen
      | o => o }
end Go.Proofs.YtplaoofclgpeeaaDoor
