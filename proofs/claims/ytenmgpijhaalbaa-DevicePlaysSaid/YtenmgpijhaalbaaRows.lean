/-
  No cell of these rows narrows 'for every input' (looked for: loops, veiled, ifaces, maps, wideKeys, modest, calm, conditions, laid).
  DERIVED. THE GIVEN ROWS OF THIS SEAT. 5 by the template 'for every input the law returns true; each argument reads behind the call as it read before'; 0 by the template 'total and deterministic' (their statements: YtenmgpijhaalbaaTotals.lean).
  GIVEN WITH THE SEED: the statements are not yours to turn. If you find one false, say at which input.
  Laid BY PROGRAM, IN A SANDBOX (cutbox-rows.mjs): the forced cells as the released guide's own fill.sh prints them over the translation cb275291bdd6db85… (all of the seat's roots in one cut). By AI agents, Wed Nov 11 2026. No macro, syntax, notation, axiom, sorry.
-/
import Derived.Test.YtenmgpijhaalbaaChecked
import GoSem.Claim
import GoSem.ClaimJoined
import GoSem.ClaimMapViews
import Derived.JoinedTies
import Derived.KernelRfl
namespace Go.Proofs.Ytenmgpijhaalbaa
/- THE CELL 'sum', in the pinned program and in every row, IS THE sha256 OF THE DUMP (.gsa) THAT YtenmgpijhaalbaaProg.lean LOADS. Nothing in Lean hashes anything: it is a label: what it is worth is what the hold of that sum in a sandbox is worth. -/
noncomputable def Try.pinned : Pinned := { name := "ytenmgpijhaalbaa", sum := "cb275291bdd6db8541236452628960abdee9de8e4ede56fffc34d7a331007c26", checked := Try.checked }
namespace Rows
def none {H : Type} : Left H := { results := [], args := [] }

/-- 'cablegramlaw11.DevicePlays': WHATEVER THE INPUT: true; the input reads as it did. -/
def devicePlaysSpec : ChangeSpec := { name := "devicePlays", fn := fun _ => fun
  | [d1, d2] => { results := [.lit (.bool true)], args := [d1, d2] }
  | _ => none }
def devicePlaysRow : OpenClaim := { program := "ytenmgpijhaalbaa", sum := "cb275291bdd6db8541236452628960abdee9de8e4ede56fffc34d7a331007c26", func := "cablegram/cablegramlaw11.DevicePlays", spec := "devicePlays", apart := false }
def DevicePlaysSaid : Prop := devicePlaysRow.holds Try.pinned (OpenSpec.ofChange devicePlaysSpec)

/-- ITS FALSE NEIGHBOUR: 'it returns false'. Refute it at one input. -/
def devicePlaysWrong : ChangeSpec := { name := "devicePlays", fn := fun _ => fun
  | [d1, d2] => { results := [.lit (.bool false)], args := [d1, d2] }
  | _ => none }
def DevicePlaysWrongFalsely : Prop := devicePlaysRow.holds Try.pinned (OpenSpec.ofChange devicePlaysWrong)

/-- 'cablegramlaw11.DeviceSure': WHATEVER THE INPUT: true; the input reads as it did. -/
def deviceSureSpec : ChangeSpec := { name := "deviceSure", fn := fun _ => fun
  | [d1, d2, d3] => { results := [.lit (.bool true)], args := [d1, d2, d3] }
  | _ => none }
def deviceSureRow : OpenClaim := { program := "ytenmgpijhaalbaa", sum := "cb275291bdd6db8541236452628960abdee9de8e4ede56fffc34d7a331007c26", func := "cablegram/cablegramlaw11.DeviceSure", spec := "deviceSure", apart := false }
def DeviceSureSaid : Prop := deviceSureRow.holds Try.pinned (OpenSpec.ofChange deviceSureSpec)

/-- ITS FALSE NEIGHBOUR: 'it returns false'. Refute it at one input. -/
def deviceSureWrong : ChangeSpec := { name := "deviceSure", fn := fun _ => fun
  | [d1, d2, d3] => { results := [.lit (.bool false)], args := [d1, d2, d3] }
  | _ => none }
def DeviceSureWrongFalsely : Prop := deviceSureRow.holds Try.pinned (OpenSpec.ofChange deviceSureWrong)

/-- 'cablegramlaw11.DeviceWhole': WHATEVER THE INPUT: true; the input reads as it did. -/
def deviceWholeSpec : ChangeSpec := { name := "deviceWhole", fn := fun _ => fun
  | [d1, d2, d3] => { results := [.lit (.bool true)], args := [d1, d2, d3] }
  | _ => none }
def deviceWholeRow : OpenClaim := { program := "ytenmgpijhaalbaa", sum := "cb275291bdd6db8541236452628960abdee9de8e4ede56fffc34d7a331007c26", func := "cablegram/cablegramlaw11.DeviceWhole", spec := "deviceWhole", apart := false }
def DeviceWholeSaid : Prop := deviceWholeRow.holds Try.pinned (OpenSpec.ofChange deviceWholeSpec)

/-- ITS FALSE NEIGHBOUR: 'it returns false'. Refute it at one input. -/
def deviceWholeWrong : ChangeSpec := { name := "deviceWhole", fn := fun _ => fun
  | [d1, d2, d3] => { results := [.lit (.bool false)], args := [d1, d2, d3] }
  | _ => none }
def DeviceWholeWrongFalsely : Prop := deviceWholeRow.holds Try.pinned (OpenSpec.ofChange deviceWholeWrong)

/-- 'cablegramlaw11.DeviceCopy': WHATEVER THE INPUT: true; the input reads as it did. -/
def deviceCopySpec : ChangeSpec := { name := "deviceCopy", fn := fun _ => fun
  | [d1, d2] => { results := [.lit (.bool true)], args := [d1, d2] }
  | _ => none }
def deviceCopyRow : OpenClaim := { program := "ytenmgpijhaalbaa", sum := "cb275291bdd6db8541236452628960abdee9de8e4ede56fffc34d7a331007c26", func := "cablegram/cablegramlaw11.DeviceCopy", spec := "deviceCopy", apart := false }
def DeviceCopySaid : Prop := deviceCopyRow.holds Try.pinned (OpenSpec.ofChange deviceCopySpec)

/-- ITS FALSE NEIGHBOUR: 'it returns false'. Refute it at one input. -/
def deviceCopyWrong : ChangeSpec := { name := "deviceCopy", fn := fun _ => fun
  | [d1, d2] => { results := [.lit (.bool false)], args := [d1, d2] }
  | _ => none }
def DeviceCopyWrongFalsely : Prop := deviceCopyRow.holds Try.pinned (OpenSpec.ofChange deviceCopyWrong)

/-- 'cablegramlaw11.DeviceFused': WHATEVER THE INPUT: true; the input reads as it did. -/
def deviceFusedSpec : ChangeSpec := { name := "deviceFused", fn := fun _ => fun
  | [d1, d2] => { results := [.lit (.bool true)], args := [d1, d2] }
  | _ => none }
def deviceFusedRow : OpenClaim := { program := "ytenmgpijhaalbaa", sum := "cb275291bdd6db8541236452628960abdee9de8e4ede56fffc34d7a331007c26", func := "cablegram/cablegramlaw11.DeviceFused", spec := "deviceFused", apart := false }
def DeviceFusedSaid : Prop := deviceFusedRow.holds Try.pinned (OpenSpec.ofChange deviceFusedSpec)

/-- ITS FALSE NEIGHBOUR: 'it returns false'. Refute it at one input. -/
def deviceFusedWrong : ChangeSpec := { name := "deviceFused", fn := fun _ => fun
  | [d1, d2] => { results := [.lit (.bool false)], args := [d1, d2] }
  | _ => none }
def DeviceFusedWrongFalsely : Prop := deviceFusedRow.holds Try.pinned (OpenSpec.ofChange deviceFusedWrong)

/- THE SECOND FORM. 'bulk': how many values and letters a reading holds, each counted each time it is reached (what is shared counts as often as it is met; a slice's spare places count too). A statement '..UptoSaid' is the law's where the arguments, and the package variables that the reading takes, are together of bulk at most 1048576: NARROWER than '..Said'. Prove '..Said' where nothing that the law and all that it calls make is longer than what came in: it says more and counts as full. Else prove '..UptoSaid'. A law counts once. -/
mutual
def uptoBulk {H : Type} : DataW H → Nat
  | .lit (.string bytes) => bytes.length + 1
  | .lit _ => 1
  | .nil => 1
  | .ptr d => uptoBulk d + 1
  | .slice elems spare => uptoBulkAll elems + uptoBulkAll spare + 1
  | .agg parts => uptoBulkAll parts + 1
  | .iface _ d => uptoBulk d + 1
  | .map entries => uptoBulkEntries entries + 1
  | .held _ => 1
def uptoBulkAll {H : Type} : List (DataW H) → Nat
  | [] => 0
  | d :: r => uptoBulk d + uptoBulkAll r
def uptoBulkEntries {H : Type} : List (Lit × DataW H) → Nat
  | [] => 0
  | x :: r => uptoBulkEntry x + uptoBulkEntries r
def uptoBulkEntry {H : Type} : Lit × DataW H → Nat
  | (.string bytes, d) => bytes.length + uptoBulk d + 1
  | (_, d) => uptoBulk d + 1
 end
def uptoSmall : (H : Type) → List (DataW H) → Bool := fun _ ds => decide (uptoBulkAll ds ≤ 1048576)
def OpenSpec.upto (s : _root_.Go.ChangeSpec) : _root_.Go.OpenSpec := { _root_.Go.OpenSpec.ofChange s with cond := some uptoSmall }

/-- 'cablegramlaw11.DevicePlays', WHERE WHAT IT READS IS OF BULK AT MOST 1048576: true; the input reads as it did. -/
def devicePlaysUptoRow : OpenClaim := { program := "ytenmgpijhaalbaa", sum := "cb275291bdd6db8541236452628960abdee9de8e4ede56fffc34d7a331007c26", func := "cablegram/cablegramlaw11.DevicePlays", spec := "devicePlays", apart := false, narrowed := true }
def DevicePlaysUptoSaid : Prop := devicePlaysUptoRow.holds Try.pinned (OpenSpec.upto devicePlaysSpec)

/-- 'cablegramlaw11.DeviceSure', WHERE WHAT IT READS IS OF BULK AT MOST 1048576: true; the input reads as it did. -/
def deviceSureUptoRow : OpenClaim := { program := "ytenmgpijhaalbaa", sum := "cb275291bdd6db8541236452628960abdee9de8e4ede56fffc34d7a331007c26", func := "cablegram/cablegramlaw11.DeviceSure", spec := "deviceSure", apart := false, narrowed := true }
def DeviceSureUptoSaid : Prop := deviceSureUptoRow.holds Try.pinned (OpenSpec.upto deviceSureSpec)

/-- 'cablegramlaw11.DeviceWhole', WHERE WHAT IT READS IS OF BULK AT MOST 1048576: true; the input reads as it did. -/
def deviceWholeUptoRow : OpenClaim := { program := "ytenmgpijhaalbaa", sum := "cb275291bdd6db8541236452628960abdee9de8e4ede56fffc34d7a331007c26", func := "cablegram/cablegramlaw11.DeviceWhole", spec := "deviceWhole", apart := false, narrowed := true }
def DeviceWholeUptoSaid : Prop := deviceWholeUptoRow.holds Try.pinned (OpenSpec.upto deviceWholeSpec)

/-- 'cablegramlaw11.DeviceCopy', WHERE WHAT IT READS IS OF BULK AT MOST 1048576: true; the input reads as it did. -/
def deviceCopyUptoRow : OpenClaim := { program := "ytenmgpijhaalbaa", sum := "cb275291bdd6db8541236452628960abdee9de8e4ede56fffc34d7a331007c26", func := "cablegram/cablegramlaw11.DeviceCopy", spec := "deviceCopy", apart := false, narrowed := true }
def DeviceCopyUptoSaid : Prop := deviceCopyUptoRow.holds Try.pinned (OpenSpec.upto deviceCopySpec)

/-- 'cablegramlaw11.DeviceFused', WHERE WHAT IT READS IS OF BULK AT MOST 1048576: true; the input reads as it did. -/
def deviceFusedUptoRow : OpenClaim := { program := "ytenmgpijhaalbaa", sum := "cb275291bdd6db8541236452628960abdee9de8e4ede56fffc34d7a331007c26", func := "cablegram/cablegramlaw11.DeviceFused", spec := "deviceFused", apart := false, narrowed := true }
def DeviceFusedUptoSaid : Prop := deviceFusedUptoRow.holds Try.pinned (OpenSpec.upto deviceFusedSpec)

end Rows
end Go.Proofs.Ytenmgpijhaalbaa
