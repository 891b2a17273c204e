/-
  No cell of these rows narrows 'for every input' (looked for: loops, veiled, ifaces, maps, wideKeys, modest, calm, conditions, laid).
  DERIVED. THE GIVEN ROWS OF THIS SEAT. 6 by the template 'for every input the law returns true; each argument reads behind the call as it read before'; 0 by the template 'total and deterministic' (their statements: YtpgjcmccfpjmoaaTotals.lean).
  GIVEN WITH THE SEED: the statements are not yours to turn. If you find one false, say at which input.
  Laid BY PROGRAM, IN A SANDBOX (cutbox-rows.mjs): the forced cells as the released guide's own fill.sh prints them over the translation 364f297f78c4d97f… (all of the seat's roots in one cut). By AI agents, Wed Nov 11 2026. No macro, syntax, notation, axiom, sorry.
-/
import Derived.Test.YtpgjcmccfpjmoaaChecked
import GoSem.Claim
import GoSem.ClaimJoined
import GoSem.ClaimMapViews
import Derived.JoinedTies
import Derived.KernelRfl
namespace Go.Proofs.Ytpgjcmccfpjmoaa
/- THE CELL 'sum', in the pinned program and in every row, IS THE sha256 OF THE DUMP (.gsa) THAT YtpgjcmccfpjmoaaProg.lean LOADS. Nothing in Lean hashes anything: it is a label: what it is worth is what the hold of that sum in a sandbox is worth. -/
noncomputable def Try.pinned : Pinned := { name := "ytpgjcmccfpjmoaa", sum := "364f297f78c4d97fd66bd9437842277558301446b7de51fa085810b719eedb95", checked := Try.checked }
namespace Rows
def none {H : Type} : Left H := { results := [], args := [] }

/-- 'cablegramlaw07.LadderRaw': WHATEVER THE INPUT: true; the input reads as it did. -/
def ladderRawSpec : ChangeSpec := { name := "ladderRaw", fn := fun _ => fun
  | [d1, d2] => { results := [.lit (.bool true)], args := [d1, d2] }
  | _ => none }
def ladderRawRow : OpenClaim := { program := "ytpgjcmccfpjmoaa", sum := "364f297f78c4d97fd66bd9437842277558301446b7de51fa085810b719eedb95", func := "cablegram/cablegramlaw07.LadderRaw", spec := "ladderRaw", inPlace := ["math/bits.Add64"], apart := false }
def LadderRawSaid : Prop := ladderRawRow.holds Try.pinned (OpenSpec.ofChange ladderRawSpec)

/-- ITS FALSE NEIGHBOUR: 'it returns false'. Refute it at one input. -/
def ladderRawWrong : ChangeSpec := { name := "ladderRaw", fn := fun _ => fun
  | [d1, d2] => { results := [.lit (.bool false)], args := [d1, d2] }
  | _ => none }
def LadderRawWrongFalsely : Prop := ladderRawRow.holds Try.pinned (OpenSpec.ofChange ladderRawWrong)

/-- 'cablegramlaw07.LadderPairs': WHATEVER THE INPUT: true; the input reads as it did. -/
def ladderPairsSpec : ChangeSpec := { name := "ladderPairs", fn := fun _ => fun
  | [d1, d2] => { results := [.lit (.bool true)], args := [d1, d2] }
  | _ => none }
def ladderPairsRow : OpenClaim := { program := "ytpgjcmccfpjmoaa", sum := "364f297f78c4d97fd66bd9437842277558301446b7de51fa085810b719eedb95", func := "cablegram/cablegramlaw07.LadderPairs", spec := "ladderPairs", inPlace := ["math/bits.Add64", "sync/atomic.LoadUint32", "(*internal/sync.Mutex).Lock", "internal/race.Disable", "sync/atomic.CompareAndSwapInt32", "internal/race.Enable", "internal/race.Acquire", "(*internal/sync.Mutex).lockSlow", "internal/sync.runtime_canSpin", "internal/sync.runtime_doSpin", "internal/sync.throw", "internal/sync.runtime_nanotime", "internal/sync.runtime_SemacquireMutex", "sync/atomic.AddInt32", "(*internal/sync.Mutex).Unlock", "internal/race.ReleaseMerge", "(*internal/sync.Mutex).unlockSlow", "internal/sync.fatal", "internal/sync.runtime_Semrelease", "sync/atomic.StoreUint32"], unfollowed := true, recurses := true, apart := false }
def LadderPairsSaid : Prop := ladderPairsRow.holds Try.pinned (OpenSpec.ofChange ladderPairsSpec)

/-- ITS FALSE NEIGHBOUR: 'it returns false'. Refute it at one input. -/
def ladderPairsWrong : ChangeSpec := { name := "ladderPairs", fn := fun _ => fun
  | [d1, d2] => { results := [.lit (.bool false)], args := [d1, d2] }
  | _ => none }
def LadderPairsWrongFalsely : Prop := ladderPairsRow.holds Try.pinned (OpenSpec.ofChange ladderPairsWrong)

/-- 'cablegramlaw07.LadderAgrees': WHATEVER THE INPUT: true; the input reads as it did. -/
def ladderAgreesSpec : ChangeSpec := { name := "ladderAgrees", fn := fun _ => fun
  | [d1, d2] => { results := [.lit (.bool true)], args := [d1, d2] }
  | _ => none }
def ladderAgreesRow : OpenClaim := { program := "ytpgjcmccfpjmoaa", sum := "364f297f78c4d97fd66bd9437842277558301446b7de51fa085810b719eedb95", func := "cablegram/cablegramlaw07.LadderAgrees", spec := "ladderAgrees", inPlace := ["math/bits.Add64", "sync/atomic.LoadUint32", "(*internal/sync.Mutex).Lock", "internal/race.Disable", "sync/atomic.CompareAndSwapInt32", "internal/race.Enable", "internal/race.Acquire", "(*internal/sync.Mutex).lockSlow", "internal/sync.runtime_canSpin", "internal/sync.runtime_doSpin", "internal/sync.throw", "internal/sync.runtime_nanotime", "internal/sync.runtime_SemacquireMutex", "sync/atomic.AddInt32", "(*internal/sync.Mutex).Unlock", "internal/race.ReleaseMerge", "(*internal/sync.Mutex).unlockSlow", "internal/sync.fatal", "internal/sync.runtime_Semrelease", "sync/atomic.StoreUint32"], unfollowed := true, recurses := true, apart := false }
def LadderAgreesSaid : Prop := ladderAgreesRow.holds Try.pinned (OpenSpec.ofChange ladderAgreesSpec)

/-- ITS FALSE NEIGHBOUR: 'it returns false'. Refute it at one input. -/
def ladderAgreesWrong : ChangeSpec := { name := "ladderAgrees", fn := fun _ => fun
  | [d1, d2] => { results := [.lit (.bool false)], args := [d1, d2] }
  | _ => none }
def LadderAgreesWrongFalsely : Prop := ladderAgreesRow.holds Try.pinned (OpenSpec.ofChange ladderAgreesWrong)

/-- 'cablegramlaw07.LadderOrder': WHATEVER THE INPUT: true; the input reads as it did. -/
def ladderOrderSpec : ChangeSpec := { name := "ladderOrder", fn := fun _ => fun
  | [d1, d2, d3] => { results := [.lit (.bool true)], args := [d1, d2, d3] }
  | _ => none }
def ladderOrderRow : OpenClaim := { program := "ytpgjcmccfpjmoaa", sum := "364f297f78c4d97fd66bd9437842277558301446b7de51fa085810b719eedb95", func := "cablegram/cablegramlaw07.LadderOrder", spec := "ladderOrder", inPlace := ["math/bits.Add64"], apart := false }
def LadderOrderSaid : Prop := ladderOrderRow.holds Try.pinned (OpenSpec.ofChange ladderOrderSpec)

/-- ITS FALSE NEIGHBOUR: 'it returns false'. Refute it at one input. -/
def ladderOrderWrong : ChangeSpec := { name := "ladderOrder", fn := fun _ => fun
  | [d1, d2, d3] => { results := [.lit (.bool false)], args := [d1, d2, d3] }
  | _ => none }
def LadderOrderWrongFalsely : Prop := ladderOrderRow.holds Try.pinned (OpenSpec.ofChange ladderOrderWrong)

/-- 'cablegramlaw07.LadderClamped': WHATEVER THE INPUT: true; the input reads as it did. -/
def ladderClampedSpec : ChangeSpec := { name := "ladderClamped", fn := fun _ => fun
  | [d1, d2, d3] => { results := [.lit (.bool true)], args := [d1, d2, d3] }
  | _ => none }
def ladderClampedRow : OpenClaim := { program := "ytpgjcmccfpjmoaa", sum := "364f297f78c4d97fd66bd9437842277558301446b7de51fa085810b719eedb95", func := "cablegram/cablegramlaw07.LadderClamped", spec := "ladderClamped", inPlace := ["math/bits.Add64"], apart := false }
def LadderClampedSaid : Prop := ladderClampedRow.holds Try.pinned (OpenSpec.ofChange ladderClampedSpec)

/-- ITS FALSE NEIGHBOUR: 'it returns false'. Refute it at one input. -/
def ladderClampedWrong : ChangeSpec := { name := "ladderClamped", fn := fun _ => fun
  | [d1, d2, d3] => { results := [.lit (.bool false)], args := [d1, d2, d3] }
  | _ => none }
def LadderClampedWrongFalsely : Prop := ladderClampedRow.holds Try.pinned (OpenSpec.ofChange ladderClampedWrong)

/-- 'cablegramlaw07.LadderSmall': WHATEVER THE INPUT: true; the input reads as it did. -/
def ladderSmallSpec : ChangeSpec := { name := "ladderSmall", fn := fun _ => fun
  | [d] => { results := [.lit (.bool true)], args := [d] }
  | _ => none }
def ladderSmallRow : OpenClaim := { program := "ytpgjcmccfpjmoaa", sum := "364f297f78c4d97fd66bd9437842277558301446b7de51fa085810b719eedb95", func := "cablegram/cablegramlaw07.LadderSmall", spec := "ladderSmall", inPlace := ["math/bits.Add64"], apart := false }
def LadderSmallSaid : Prop := ladderSmallRow.holds Try.pinned (OpenSpec.ofChange ladderSmallSpec)

/-- ITS FALSE NEIGHBOUR: 'it returns false'. Refute it at one input. -/
def ladderSmallWrong : ChangeSpec := { name := "ladderSmall", fn := fun _ => fun
  | [d] => { results := [.lit (.bool false)], args := [d] }
  | _ => none }
def LadderSmallWrongFalsely : Prop := ladderSmallRow.holds Try.pinned (OpenSpec.ofChange ladderSmallWrong)

/- THE SECOND FORM. 'bulk': how many values and letters a reading holds, each counted each time it is reached (what is shared counts as often as it is met; a slice's spare places count too). A statement '..UptoSaid' is the law's where the arguments, and the package variables that the reading takes, are together of bulk at most 1048576: NARROWER than '..Said'. Prove '..Said' where nothing that the law and all that it calls make is longer than what came in: it says more and counts as full. Else prove '..UptoSaid'. A law counts once. -/
mutual
def uptoBulk {H : Type} : DataW H → Nat
  | .lit (.string bytes) => bytes.length + 1
  | .lit _ => 1
  | .nil => 1
  | .ptr d => uptoBulk d + 1
  | .slice elems spare => uptoBulkAll elems + uptoBulkAll spare + 1
  | .agg parts => uptoBulkAll parts + 1
  | .iface _ d => uptoBulk d + 1
  | .map entries => uptoBulkEntries entries + 1
  | .held _ => 1
def uptoBulkAll {H : Type} : List (DataW H) → Nat
  | [] => 0
  | d :: r => uptoBulk d + uptoBulkAll r
def uptoBulkEntries {H : Type} : List (Lit × DataW H) → Nat
  | [] => 0
  | x :: r => uptoBulkEntry x + uptoBulkEntries r
def uptoBulkEntry {H : Type} : Lit × DataW H → Nat
  | (.string bytes, d) => bytes.length + uptoBulk d + 1
  | (_, d) => uptoBulk d + 1
 end
def uptoSmall : (H : Type) → List (DataW H) → Bool := fun _ ds => decide (uptoBulkAll ds ≤ 1048576)
def OpenSpec.upto (s : _root_.Go.ChangeSpec) : _root_.Go.OpenSpec := { _root_.Go.OpenSpec.ofChange s with cond := some uptoSmall }

/-- 'cablegramlaw07.LadderRaw', WHERE WHAT IT READS IS OF BULK AT MOST 1048576: true; the input reads as it did. -/
def ladderRawUptoRow : OpenClaim := { program := "ytpgjcmccfpjmoaa", sum := "364f297f78c4d97fd66bd9437842277558301446b7de51fa085810b719eedb95", func := "cablegram/cablegramlaw07.LadderRaw", spec := "ladderRaw", inPlace := ["math/bits.Add64"], apart := false, narrowed := true }
def LadderRawUptoSaid : Prop := ladderRawUptoRow.holds Try.pinned (OpenSpec.upto ladderRawSpec)

/-- 'cablegramlaw07.LadderPairs', WHERE WHAT IT READS IS OF BULK AT MOST 1048576: true; the input reads as it did. -/
def ladderPairsUptoRow : OpenClaim := { program := "ytpgjcmccfpjmoaa", sum := "364f297f78c4d97fd66bd9437842277558301446b7de51fa085810b719eedb95", func := "cablegram/cablegramlaw07.LadderPairs", spec := "ladderPairs", inPlace := ["math/bits.Add64", "sync/atomic.LoadUint32", "(*internal/sync.Mutex).Lock", "internal/race.Disable", "sync/atomic.CompareAndSwapInt32", "internal/race.Enable", "internal/race.Acquire", "(*internal/sync.Mutex).lockSlow", "internal/sync.runtime_canSpin", "internal/sync.runtime_doSpin", "internal/sync.throw", "internal/sync.runtime_nanotime", "internal/sync.runtime_SemacquireMutex", "sync/atomic.AddInt32", "(*internal/sync.Mutex).Unlock", "internal/race.ReleaseMerge", "(*internal/sync.Mutex).unlockSlow", "internal/sync.fatal", "internal/sync.runtime_Semrelease", "sync/atomic.StoreUint32"], unfollowed := true, recurses := true, apart := false, narrowed := true }
def LadderPairsUptoSaid : Prop := ladderPairsUptoRow.holds Try.pinned (OpenSpec.upto ladderPairsSpec)

/-- 'cablegramlaw07.LadderAgrees', WHERE WHAT IT READS IS OF BULK AT MOST 1048576: true; the input reads as it did. -/
def ladderAgreesUptoRow : OpenClaim := { program := "ytpgjcmccfpjmoaa", sum := "364f297f78c4d97fd66bd9437842277558301446b7de51fa085810b719eedb95", func := "cablegram/cablegramlaw07.LadderAgrees", spec := "ladderAgrees", inPlace := ["math/bits.Add64", "sync/atomic.LoadUint32", "(*internal/sync.Mutex).Lock", "internal/race.Disable", "sync/atomic.CompareAndSwapInt32", "internal/race.Enable", "internal/race.Acquire", "(*internal/sync.Mutex).lockSlow", "internal/sync.runtime_canSpin", "internal/sync.runtime_doSpin", "internal/sync.throw", "internal/sync.runtime_nanotime", "internal/sync.runtime_SemacquireMutex", "sync/atomic.AddInt32", "(*internal/sync.Mutex).Unlock", "internal/race.ReleaseMerge", "(*internal/sync.Mutex).unlockSlow", "internal/sync.fatal", "internal/sync.runtime_Semrelease", "sync/atomic.StoreUint32"], unfollowed := true, recurses := true, apart := false, narrowed := true }
def LadderAgreesUptoSaid : Prop := ladderAgreesUptoRow.holds Try.pinned (OpenSpec.upto ladderAgreesSpec)

/-- 'cablegramlaw07.LadderOrder', WHERE WHAT IT READS IS OF BULK AT MOST 1048576: true; the input reads as it did. -/
def ladderOrderUptoRow : OpenClaim := { program := "ytpgjcmccfpjmoaa", sum := "364f297f78c4d97fd66bd9437842277558301446b7de51fa085810b719eedb95", func := "cablegram/cablegramlaw07.LadderOrder", spec := "ladderOrder", inPlace := ["math/bits.Add64"], apart := false, narrowed := true }
def LadderOrderUptoSaid : Prop := ladderOrderUptoRow.holds Try.pinned (OpenSpec.upto ladderOrderSpec)

/-- 'cablegramlaw07.LadderClamped', WHERE WHAT IT READS IS OF BULK AT MOST 1048576: true; the input reads as it did. -/
def ladderClampedUptoRow : OpenClaim := { program := "ytpgjcmccfpjmoaa", sum := "364f297f78c4d97fd66bd9437842277558301446b7de51fa085810b719eedb95", func := "cablegram/cablegramlaw07.LadderClamped", spec := "ladderClamped", inPlace := ["math/bits.Add64"], apart := false, narrowed := true }
def LadderClampedUptoSaid : Prop := ladderClampedUptoRow.holds Try.pinned (OpenSpec.upto ladderClampedSpec)

/-- 'cablegramlaw07.LadderSmall', WHERE WHAT IT READS IS OF BULK AT MOST 1048576: true; the input reads as it did. -/
def ladderSmallUptoRow : OpenClaim := { program := "ytpgjcmccfpjmoaa", sum := "364f297f78c4d97fd66bd9437842277558301446b7de51fa085810b719eedb95", func := "cablegram/cablegramlaw07.LadderSmall", spec := "ladderSmall", inPlace := ["math/bits.Add64"], apart := false, narrowed := true }
def LadderSmallUptoSaid : Prop := ladderSmallUptoRow.holds Try.pinned (OpenSpec.upto ladderSmallSpec)

end Rows
end Go.Proofs.Ytpgjcmccfpjmoaa
