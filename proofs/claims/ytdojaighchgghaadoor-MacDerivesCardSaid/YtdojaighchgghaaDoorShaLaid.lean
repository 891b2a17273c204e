/-
  What the rows' list of tables gives the walks of sha: cubes and squares; and a world for the witness. Conditions: none.
-/
import Derived.Test.YtdojaighchgghaaDoorCards
import Derived.Test.YtdojaighchgghaaDoorTie
import Derived.Test.YtdojaighchgghaaDoorOpen
import Derived.Test.YtdojaighchgghaaDoorShaC
import Derived.ProofKit
import Derived.ShutString
import Derived.Lib.LaidTab
import Derived.Stop.LaidErr
namespace Go.Proofs.YtdojaighchgghaaDoor
open Go.RowKit
set_option linter.unusedVariables false
set_option maxRecDepth 100000

theorem gCubes : Tryd.prog.globalNamed "cablegram/sha.cubes" = some 0 := by kernel_rfl
theorem gCubesType : (Tryd.prog.globals[0]?).map (·.type) = some 66 := by kernel_rfl
theorem gSquares : Tryd.prog.globalNamed "cablegram/sha.squares" = some 1 := by kernel_rfl
theorem gSquaresType : (Tryd.prog.globals[1]?).map (·.type) = some 23 := by kernel_rfl
theorem cellsT1 : Tryd.prog.cellsOf 22 = 1 := by kernel_rfl
theorem cellsT64 : Tryd.prog.cellsOf 66 = 64 := by kernel_rfl
theorem cellsT8 : Tryd.prog.cellsOf 23 = 8 := by kernel_rfl
def cubesI : List Int := cubesW.map fun x => (x.toNat : Int)
def squaresI : List Int := squaresW.map fun x => (x.toNat : Int)
theorem cubes_data : (Rows.laid_cablegram_sha_cubes : DataW Unit) = Lib.tabData .u32 cubesI := by kernel_rfl
theorem squares_data : (Rows.laid_cablegram_sha_squares : DataW Unit) = Lib.tabData .u32 squaresI := by kernel_rfl
theorem tab_get (l : List UInt32) (j : Nat) (h : j < l.length) : (l.map fun x => (x.toNat : Int)).getD j 0 = ((l.getD j 0).toNat : Int) := by
  simp [List.getD_eq_getElem?_getD, h]

theorem tables {W : World} (h : laidMetH Tryd.prog Rows.shaWholeRow.laid W) : Tabs W := by
  have h0 : laidMet Tryd.prog [("cablegram/sha.cubes", Rows.laid_cablegram_sha_cubes), ("cablegram/sha.squares", Rows.laid_cablegram_sha_squares)] W := h
  have h1 := laidMet.tail h0
  rw [cubes_data] at h0
  rw [squares_data] at h1
  have c := Lib.tabIs_of_head gCubes gCubesType Tryd.underlying66 Tryd.underlying22 cellsT1 cellsT64 h0
  have s := Lib.tabIs_of_head gSquares gSquaresType Tryd.underlying23 Tryd.underlying22 cellsT1 cellsT8 h1
  refine ⟨fun j hj => ?_, fun j hj => ?_⟩
  · have := c.cell gCubes j (by simp [cubesI, cubesW_length]; exact hj)
    rw [this, cubesI, tab_get _ _ (by rw [cubesW_length]; exact hj)]
  · have := s.cell gSquares j (by simp [squaresI, squaresW_length]; exact hj)
    rw [this, squaresI, tab_get _ _ (by rw [squaresW_length]; exact hj)]

def putCells (cs : Array Value) : Obj → Obj
  | .cells _ t frozen => .cells cs t frozen
  | o => o
/-- A world for a witness: the settled one, the tables holding what their initialisers lay. -/
noncomputable def laidWorld (os : Os) : World :=
  { World.holding Tryd.prog os ⟨#[], #[], []⟩ with heap := Array.modify (Array.modify (World.holding Tryd.prog os ⟨#[], #[], []⟩).heap 0 (putCells #[.int .u32 1116352408, .int .u32 1899447441, .int .u32 3049323471, .int .u32 3921009573, .int .u32 961987163, .int .u32 1508970993, .int .u32 2453635748, .int .u32 2870763221, .int .u32 3624381080, .int .u32 310598401, .int .u32 607225278, .int .u32 1426881987, .int .u32 1925078388, .int .u32 2162078206, .int .u32 2614888103, .int .u32 3248222580, .int .u32 3835390401, .int .u32 4022224774, .int .u32 264347078, .int .u32 604807628, .int .u32 770255983, .int .u32 1249150122, .int .u32 1555081692, .int .u32 1996064986, .int .u32 2554220882, .int .u32 2821834349, .int .u32 2952996808, .int .u32 3210313671, .int .u32 3336571891, .int .u32 3584528711, .int .u32 113926993, .int .u32 338241895, .int .u32 666307205, .int .u32 773529912, .int .u32 1294757372, .int .u32 1396182291, .int .u32 1695183700, .int .u32 1986661051, .int .u32 2177026350, .int .u32 2456956037, .int .u32 2730485921, .int .u32 2820302411, .int .u32 3259730800, .int .u32 3345764771, .int .u32 3516065817, .int .u32 3600352804, .int .u32 4094571909, .int .u32 275423344, .int .u32 430227734, .int .u32 506948616, .int .u32 659060556, .int .u32 883997877, .int .u32 958139571, .int .u32 1322822218, .int .u32 1537002063, .int .u32 1747873779, .int .u32 1955562222, .int .u32 2024104815, .int .u32 2227730452, .int .u32 2361852424, .int .u32 2428436474, .int .u32 2756734187, .int .u32 3204031479, .int .u32 3329325298])) 1 (putCells #[.int .u32 1779033703, .int .u32 3144134277, .int .u32 1013904242, .int .u32 2773480762, .int .u32 1359893119, .int .u32 2600822924, .int .u32 528734635, .int .u32 1541459225]) }
end Go.Proofs.YtdojaighchgghaaDoor
