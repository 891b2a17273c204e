/-
  DERIVED. GIVEN WITH THE SEED: THE CARDS: each row of YtjlhmcnajgafgaaDoorRows.lean that lists a variable, with what it lists TIED to the program's text (the seventh form; the later family's looks); each row that meets fmt, with fmt's text TOLD by the authors' own Lean function (tested against real Go, not proved from fmt's source: count such statements apart). THE CARD IS WHAT COUNTS. Prove the row's statement (the work); the ties are given (YtjlhmcnajgafgaaDoorTie.lean); close each card by the builder's one call (the guide's Derived/Test/ToyasCard.lean, 'card_holds'). Laid BY PROGRAM, IN A SANDBOX (cutbox-door.mjs). By AI agents, Wed Nov 11 2026. No macro, syntax, notation, axiom, sorry.
-/
import Derived.Test.YtjlhmcnajgafgaaDoorRows
import GoSem.ClaimSeven
namespace Go.Proofs.YtjlhmcnajgafgaaDoor
namespace Rows

/-- THE TIED CARD OF 'cablegramlaw13.DrawsPlays'. -/
def drawsPlaysCard : Claim7 := { stood := { row := drawsPlaysRow, standIns := [], harness := (true, "83bea32a8b433692a95de3a791c5040a911e93ed3b09d7f9be1ae1cfc6602862"), looks := false }, kinds := [], alts := [], laidByText := true, laidKinds := [.data, .data], laidTests := true, laidLooks := .later }
def DrawsPlaysCardSaid : Prop := Claim7.holds Tryd.pinned (.plain (OpenSpec.ofChange drawsPlaysSpec)) drawsPlaysCard

/-- THE TIED CARD OF 'cablegramlaw13.DrawsAgain'. -/
def drawsAgainCard : Claim7 := { stood := { row := drawsAgainRow, standIns := [], harness := (true, "83bea32a8b433692a95de3a791c5040a911e93ed3b09d7f9be1ae1cfc6602862"), looks := false }, kinds := [], alts := [], laidByText := true, laidKinds := [.data, .data], laidTests := true, laidLooks := .later }
def DrawsAgainCardSaid : Prop := Claim7.holds Tryd.pinned (.plain (OpenSpec.ofChange drawsAgainSpec)) drawsAgainCard

/-- THE SECOND FORM's CARD OF 'cablegramlaw13.DrawsPlays'. -/
def drawsPlaysUptoCard : Claim7 := { stood := { row := drawsPlaysUptoRow, standIns := [], harness := (true, "83bea32a8b433692a95de3a791c5040a911e93ed3b09d7f9be1ae1cfc6602862"), looks := false }, kinds := [], alts := [], laidByText := true, laidKinds := [.data, .data], laidTests := true, laidLooks := .later }
def DrawsPlaysUptoCardSaid : Prop := Claim7.holds Tryd.pinned (.plain (OpenSpec.upto drawsPlaysSpec)) drawsPlaysUptoCard

/-- THE SECOND FORM's CARD OF 'cablegramlaw13.DrawsAgain'. -/
def drawsAgainUptoCard : Claim7 := { stood := { row := drawsAgainUptoRow, standIns := [], harness := (true, "83bea32a8b433692a95de3a791c5040a911e93ed3b09d7f9be1ae1cfc6602862"), looks := false }, kinds := [], alts := [], laidByText := true, laidKinds := [.data, .data], laidTests := true, laidLooks := .later }
def DrawsAgainUptoCardSaid : Prop := Claim7.holds Tryd.pinned (.plain (OpenSpec.upto drawsAgainSpec)) drawsAgainUptoCard
end Rows
end Go.Proofs.YtjlhmcnajgafgaaDoor
