/-
  DERIVED. GIVEN WITH THE SEED: THE CARDS: each row of YtlifjlcfoeednaaDoorRows.lean that lists a variable, with what it lists TIED to the program's text (the seventh form; the later family's looks); each row that meets fmt, with fmt's text TOLD by the authors' own Lean function (tested against real Go, not proved from fmt's source: count such statements apart). THE CARD IS WHAT COUNTS. Prove the row's statement (the work); the ties are given (YtlifjlcfoeednaaDoorTie.lean); close each card by the builder's one call (the guide's Derived/Test/ToyasCard.lean, 'card_holds'). Laid BY PROGRAM, IN A SANDBOX (cutbox-door.mjs). By AI agents, Wed Nov 11 2026. No macro, syntax, notation, axiom, sorry.
-/
import Derived.Test.YtlifjlcfoeednaaDoorRows
import GoSem.ClaimSeven
namespace Go.Proofs.YtlifjlcfoeednaaDoor
namespace Rows

/-- THE TIED CARD OF 'cablegramlaw14.TrailGoes'. -/
def trailGoesCard : Claim7 := { stood := { row := trailGoesRow, standIns := [], harness := (true, "e3c9131119baa9fe9808858e51e159af91716d3973969e512dd5f9b785b0a248"), looks := false }, kinds := [], alts := [], laidByText := true, laidKinds := [.data, .data], laidTests := true, laidLooks := .later }
def TrailGoesCardSaid : Prop := Claim7.holds Tryd.pinned (.plain (OpenSpec.ofChange trailGoesSpec)) trailGoesCard

/-- THE TIED CARD OF 'cablegramlaw14.TrailPast'. -/
def trailPastCard : Claim7 := { stood := { row := trailPastRow, standIns := [], harness := (true, "e3c9131119baa9fe9808858e51e159af91716d3973969e512dd5f9b785b0a248"), looks := false }, kinds := [], alts := [], laidByText := true, laidKinds := [.data, .data], laidTests := true, laidLooks := .later }
def TrailPastCardSaid : Prop := Claim7.holds Tryd.pinned (.plain (OpenSpec.ofChange trailPastSpec)) trailPastCard

/-- THE TIED CARD OF 'cablegramlaw14.TrailCut'. -/
def trailCutCard : Claim7 := { stood := { row := trailCutRow, standIns := [], harness := (true, "e3c9131119baa9fe9808858e51e159af91716d3973969e512dd5f9b785b0a248"), looks := false }, kinds := [], alts := [], laidByText := true, laidKinds := [.data, .data], laidTests := true, laidLooks := .later }
def TrailCutCardSaid : Prop := Claim7.holds Tryd.pinned (.plain (OpenSpec.ofChange trailCutSpec)) trailCutCard

/-- THE SECOND FORM's CARD OF 'cablegramlaw14.TrailGoes'. -/
def trailGoesUptoCard : Claim7 := { stood := { row := trailGoesUptoRow, standIns := [], harness := (true, "e3c9131119baa9fe9808858e51e159af91716d3973969e512dd5f9b785b0a248"), looks := false }, kinds := [], alts := [], laidByText := true, laidKinds := [.data, .data], laidTests := true, laidLooks := .later }
def TrailGoesUptoCardSaid : Prop := Claim7.holds Tryd.pinned (.plain (OpenSpec.upto trailGoesSpec)) trailGoesUptoCard

/-- THE SECOND FORM's CARD OF 'cablegramlaw14.TrailPast'. -/
def trailPastUptoCard : Claim7 := { stood := { row := trailPastUptoRow, standIns := [], harness := (true, "e3c9131119baa9fe9808858e51e159af91716d3973969e512dd5f9b785b0a248"), looks := false }, kinds := [], alts := [], laidByText := true, laidKinds := [.data, .data], laidTests := true, laidLooks := .later }
def TrailPastUptoCardSaid : Prop := Claim7.holds Tryd.pinned (.plain (OpenSpec.upto trailPastSpec)) trailPastUptoCard

/-- THE SECOND FORM's CARD OF 'cablegramlaw14.TrailCut'. -/
def trailCutUptoCard : Claim7 := { stood := { row := trailCutUptoRow, standIns := [], harness := (true, "e3c9131119baa9fe9808858e51e159af91716d3973969e512dd5f9b785b0a248"), looks := false }, kinds := [], alts := [], laidByText := true, laidKinds := [.data, .data], laidTests := true, laidLooks := .later }
def TrailCutUptoCardSaid : Prop := Claim7.holds Tryd.pinned (.plain (OpenSpec.upto trailCutSpec)) trailCutUptoCard
end Rows
end Go.Proofs.YtlifjlcfoeednaaDoor
