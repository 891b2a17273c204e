/-
  No cell of these rows narrows 'for every input' (looked for: loops, veiled, ifaces, maps, wideKeys, modest, calm, conditions, laid).
  DERIVED. THE GIVEN ROWS OF THIS SEAT. 3 by the template 'for every input the law returns true; each argument reads behind the call as it read before'; 0 by the template 'total and deterministic' (their statements: YthipdfmaaeoijaaTotals.lean).
  GIVEN WITH THE SEED: the statements are not yours to turn. If you find one false, say at which input.
  Laid BY PROGRAM, IN A SANDBOX (cutbox-rows.mjs): the forced cells as the released guide's own fill.sh prints them over the translation cd172b0c66e6bc9e… (all of the seat's roots in one cut). By AI agents, Wed Nov 11 2026. No macro, syntax, notation, axiom, sorry.
-/
import Derived.Test.YthipdfmaaeoijaaChecked
import GoSem.Claim
import GoSem.ClaimJoined
import GoSem.ClaimMapViews
import Derived.JoinedTies
import Derived.KernelRfl
namespace Go.Proofs.Ythipdfmaaeoijaa
/- THE CELL 'sum', in the pinned program and in every row, IS THE sha256 OF THE DUMP (.gsa) THAT YthipdfmaaeoijaaProg.lean LOADS. Nothing in Lean hashes anything: it is a label: what it is worth is what the hold of that sum in a sandbox is worth. -/
noncomputable def Try.pinned : Pinned := { name := "ythipdfmaaeoijaa", sum := "cd172b0c66e6bc9e26f354a726cd9968726dc9fbe536f8f011da99409a305894", checked := Try.checked }
namespace Rows
def none {H : Type} : Left H := { results := [], args := [] }

/-- 'cablegramlaw15.EpochsGone': WHATEVER THE INPUT: true; the input reads as it did. -/
def epochsGoneSpec : ChangeSpec := { name := "epochsGone", fn := fun _ => fun
  | [d1, d2, d3] => { results := [.lit (.bool true)], args := [d1, d2, d3] }
  | _ => none }
def epochsGoneRow : OpenClaim := { program := "ythipdfmaaeoijaa", sum := "cd172b0c66e6bc9e26f354a726cd9968726dc9fbe536f8f011da99409a305894", func := "cablegram/cablegramlaw15.EpochsGone", spec := "epochsGone", inPlace := ["math/bits.Add64"], unfollowed := true, recurses := true, apart := false }
def EpochsGoneSaid : Prop := epochsGoneRow.holds Try.pinned (OpenSpec.ofChange epochsGoneSpec)

/-- ITS FALSE NEIGHBOUR: 'it returns false'. Refute it at one input. -/
def epochsGoneWrong : ChangeSpec := { name := "epochsGone", fn := fun _ => fun
  | [d1, d2, d3] => { results := [.lit (.bool false)], args := [d1, d2, d3] }
  | _ => none }
def EpochsGoneWrongFalsely : Prop := epochsGoneRow.holds Try.pinned (OpenSpec.ofChange epochsGoneWrong)

/-- 'cablegramlaw15.EpochsShare': WHATEVER THE INPUT: true; the input reads as it did. -/
def epochsShareSpec : ChangeSpec := { name := "epochsShare", fn := fun _ => fun
  | [d1, d2, d3] => { results := [.lit (.bool true)], args := [d1, d2, d3] }
  | _ => none }
def epochsShareRow : OpenClaim := { program := "ythipdfmaaeoijaa", sum := "cd172b0c66e6bc9e26f354a726cd9968726dc9fbe536f8f011da99409a305894", func := "cablegram/cablegramlaw15.EpochsShare", spec := "epochsShare", inPlace := ["math/bits.Add64"], unfollowed := true, recurses := true, apart := false }
def EpochsShareSaid : Prop := epochsShareRow.holds Try.pinned (OpenSpec.ofChange epochsShareSpec)

/-- ITS FALSE NEIGHBOUR: 'it returns false'. Refute it at one input. -/
def epochsShareWrong : ChangeSpec := { name := "epochsShare", fn := fun _ => fun
  | [d1, d2, d3] => { results := [.lit (.bool false)], args := [d1, d2, d3] }
  | _ => none }
def EpochsShareWrongFalsely : Prop := epochsShareRow.holds Try.pinned (OpenSpec.ofChange epochsShareWrong)

/-- 'cablegramlaw15.EpochsRow': WHATEVER THE INPUT: true; the input reads as it did. -/
def epochsRowSpec : ChangeSpec := { name := "epochsRow", fn := fun _ => fun
  | [d1, d2] => { results := [.lit (.bool true)], args := [d1, d2] }
  | _ => none }
def epochsRowRow : OpenClaim := { program := "ythipdfmaaeoijaa", sum := "cd172b0c66e6bc9e26f354a726cd9968726dc9fbe536f8f011da99409a305894", func := "cablegram/cablegramlaw15.EpochsRow", spec := "epochsRow", inPlace := ["math/bits.Add64"], unfollowed := true, recurses := true, apart := false }
def EpochsRowSaid : Prop := epochsRowRow.holds Try.pinned (OpenSpec.ofChange epochsRowSpec)

/-- ITS FALSE NEIGHBOUR: 'it returns false'. Refute it at one input. -/
def epochsRowWrong : ChangeSpec := { name := "epochsRow", fn := fun _ => fun
  | [d1, d2] => { results := [.lit (.bool false)], args := [d1, d2] }
  | _ => none }
def EpochsRowWrongFalsely : Prop := epochsRowRow.holds Try.pinned (OpenSpec.ofChange epochsRowWrong)

/- THE SECOND FORM. 'bulk': how many values and letters a reading holds, each counted each time it is reached (what is shared counts as often as it is met; a slice's spare places count too). A statement '..UptoSaid' is the law's where the arguments, and the package variables that the reading takes, are together of bulk at most 1048576: NARROWER than '..Said'. Prove '..Said' where nothing that the law and all that it calls make is longer than what came in: it says more and counts as full. Else prove '..UptoSaid'. A law counts once. -/
mutual
def uptoBulk {H : Type} : DataW H → Nat
  | .lit (.string bytes) => bytes.length + 1
  | .lit _ => 1
  | .nil => 1
  | .ptr d => uptoBulk d + 1
  | .slice elems spare => uptoBulkAll elems + uptoBulkAll spare + 1
  | .agg parts => uptoBulkAll parts + 1
  | .iface _ d => uptoBulk d + 1
  | .map entries => uptoBulkEntries entries + 1
  | .held _ => 1
def uptoBulkAll {H : Type} : List (DataW H) → Nat
  | [] => 0
  | d :: r => uptoBulk d + uptoBulkAll r
def uptoBulkEntries {H : Type} : List (Lit × DataW H) → Nat
  | [] => 0
  | x :: r => uptoBulkEntry x + uptoBulkEntries r
def uptoBulkEntry {H : Type} : Lit × DataW H → Nat
  | (.string bytes, d) => bytes.length + uptoBulk d + 1
  | (_, d) => uptoBulk d + 1
 end
def uptoSmall : (H : Type) → List (DataW H) → Bool := fun _ ds => decide (uptoBulkAll ds ≤ 1048576)
def OpenSpec.upto (s : _root_.Go.ChangeSpec) : _root_.Go.OpenSpec := { _root_.Go.OpenSpec.ofChange s with cond := some uptoSmall }

/-- 'cablegramlaw15.EpochsGone', WHERE WHAT IT READS IS OF BULK AT MOST 1048576: true; the input reads as it did. -/
def epochsGoneUptoRow : OpenClaim := { program := "ythipdfmaaeoijaa", sum := "cd172b0c66e6bc9e26f354a726cd9968726dc9fbe536f8f011da99409a305894", func := "cablegram/cablegramlaw15.EpochsGone", spec := "epochsGone", inPlace := ["math/bits.Add64"], unfollowed := true, recurses := true, apart := false, narrowed := true }
def EpochsGoneUptoSaid : Prop := epochsGoneUptoRow.holds Try.pinned (OpenSpec.upto epochsGoneSpec)

/-- 'cablegramlaw15.EpochsShare', WHERE WHAT IT READS IS OF BULK AT MOST 1048576: true; the input reads as it did. -/
def epochsShareUptoRow : OpenClaim := { program := "ythipdfmaaeoijaa", sum := "cd172b0c66e6bc9e26f354a726cd9968726dc9fbe536f8f011da99409a305894", func := "cablegram/cablegramlaw15.EpochsShare", spec := "epochsShare", inPlace := ["math/bits.Add64"], unfollowed := true, recurses := true, apart := false, narrowed := true }
def EpochsShareUptoSaid : Prop := epochsShareUptoRow.holds Try.pinned (OpenSpec.upto epochsShareSpec)

/-- 'cablegramlaw15.EpochsRow', WHERE WHAT IT READS IS OF BULK AT MOST 1048576: true; the input reads as it did. -/
def epochsRowUptoRow : OpenClaim := { program := "ythipdfmaaeoijaa", sum := "cd172b0c66e6bc9e26f354a726cd9968726dc9fbe536f8f011da99409a305894", func := "cablegram/cablegramlaw15.EpochsRow", spec := "epochsRow", inPlace := ["math/bits.Add64"], unfollowed := true, recurses := true, apart := false, narrowed := true }
def EpochsRowUptoSaid : Prop := epochsRowUptoRow.holds Try.pinned (OpenSpec.upto epochsRowSpec)

end Rows
end Go.Proofs.Ythipdfmaaeoijaa
