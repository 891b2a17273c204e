/-
  Contracts of octets' small functions. Conditions: as each theorem names them.
-/
import Derived.Test.YtenmgpijhaalbaaChecked
import Derived.Test.YtenmgpijhaalbaaMem
import Derived.Test.YtenmgpijhaalbaaOctMath
import Derived.WalkKit
import Derived.LoopTactic
import Derived.RegionTactic
import Derived.Deep.QuietTactic
import Derived.BigQuiet
import Derived.Outline
import Derived.WalkSpells
import Derived.WalkLawsBesides
namespace Go.Proofs.Ytenmgpijhaalbaa
open Go.RowKit
set_option linter.unusedVariables false



theorem byteN_int (n i : Nat) : (n : Int) / 2 ^ (8 * i) % 256 = ((byteN n i).toNat : Int) := by
  have h : (2 : Int) ^ (8 * i) = ((256 ^ i : Nat) : Int) := by
    rw [show (256 : Nat) = 2 ^ 8 from rfl, ← Nat.pow_mul]
    simp
  rw [byteN_toNat, h]
  omega




theorem Try.infoB : (Try.prog.info? 5).map (fun i => (i.zero, i.size, i.bytes)) = some (some (.int .u8 0), 1, 1) := by kernel_rfl

end Go.Proofs.Ytenmgpijhaalbaa

