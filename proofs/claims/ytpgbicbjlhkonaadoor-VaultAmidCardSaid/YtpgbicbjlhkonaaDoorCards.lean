/-
  DERIVED. GIVEN WITH THE SEED: THE CARDS: each row of YtpgbicbjlhkonaaDoorRows.lean that lists a variable, with what it lists TIED to the program's text (the seventh form; the later family's looks); each row that meets fmt, with fmt's text TOLD by the authors' own Lean function (tested against real Go, not proved from fmt's source: count such statements apart). THE CARD IS WHAT COUNTS. Prove the row's statement (the work); the ties are given (YtpgbicbjlhkonaaDoorTie.lean); close each card by the builder's one call (the guide's Derived/Test/ToyasCard.lean, 'card_holds'). Laid BY PROGRAM, IN A SANDBOX (cutbox-door.mjs). By AI agents, Wed Nov 11 2026. No macro, syntax, notation, axiom, sorry.
-/
import Derived.Test.YtpgbicbjlhkonaaDoorRows
import GoSem.ClaimSeven
namespace Go.Proofs.YtpgbicbjlhkonaaDoor
namespace Rows

/-- THE TIED CARD OF 'cablegramlaw12.VaultBack'. -/
def vaultBackCard : Claim7 := { stood := { row := vaultBackRow, standIns := [], harness := (true, "fcfaa73e7025ff88b615ba9bce8d3b77844936043122074d4745d365590fa280"), looks := false }, kinds := [], alts := [], laidByText := true, laidKinds := [.data, .data], laidTests := true, laidLooks := .later }
def VaultBackCardSaid : Prop := Claim7.holds Tryd.pinned (.plain (OpenSpec.ofChange vaultBackSpec)) vaultBackCard

/-- THE TIED CARD OF 'cablegramlaw12.VaultAmid'. -/
def vaultAmidCard : Claim7 := { stood := { row := vaultAmidRow, standIns := [], harness := (true, "fcfaa73e7025ff88b615ba9bce8d3b77844936043122074d4745d365590fa280"), looks := false }, kinds := [], alts := [], laidByText := true, laidKinds := [.data, .data], laidTests := true, laidLooks := .later }
def VaultAmidCardSaid : Prop := Claim7.holds Tryd.pinned (.plain (OpenSpec.ofChange vaultAmidSpec)) vaultAmidCard

/-- THE TIED CARD OF 'cablegramlaw12.VaultCounts'. -/
def vaultCountsCard : Claim7 := { stood := { row := vaultCountsRow, standIns := [], harness := (true, "fcfaa73e7025ff88b615ba9bce8d3b77844936043122074d4745d365590fa280"), looks := false }, kinds := [], alts := [], laidByText := true, laidKinds := [.data, .data], laidTests := true, laidLooks := .later }
def VaultCountsCardSaid : Prop := Claim7.holds Tryd.pinned (.plain (OpenSpec.ofChange vaultCountsSpec)) vaultCountsCard

/-- THE TIED CARD OF 'cablegramlaw12.VaultRefused'. -/
def vaultRefusedCard : Claim7 := { stood := { row := vaultRefusedRow, standIns := [], harness := (true, "fcfaa73e7025ff88b615ba9bce8d3b77844936043122074d4745d365590fa280"), looks := false }, kinds := [], alts := [], laidByText := true, laidKinds := [.data, .data], laidTests := true, laidLooks := .later }
def VaultRefusedCardSaid : Prop := Claim7.holds Tryd.pinned (.plain (OpenSpec.ofChange vaultRefusedSpec)) vaultRefusedCard

/-- THE SECOND FORM's CARD OF 'cablegramlaw12.VaultBack'. -/
def vaultBackUptoCard : Claim7 := { stood := { row := vaultBackUptoRow, standIns := [], harness := (true, "fcfaa73e7025ff88b615ba9bce8d3b77844936043122074d4745d365590fa280"), looks := false }, kinds := [], alts := [], laidByText := true, laidKinds := [.data, .data], laidTests := true, laidLooks := .later }
def VaultBackUptoCardSaid : Prop := Claim7.holds Tryd.pinned (.plain (OpenSpec.upto vaultBackSpec)) vaultBackUptoCard

/-- THE SECOND FORM's CARD OF 'cablegramlaw12.VaultAmid'. -/
def vaultAmidUptoCard : Claim7 := { stood := { row := vaultAmidUptoRow, standIns := [], harness := (true, "fcfaa73e7025ff88b615ba9bce8d3b77844936043122074d4745d365590fa280"), looks := false }, kinds := [], alts := [], laidByText := true, laidKinds := [.data, .data], laidTests := true, laidLooks := .later }
def VaultAmidUptoCardSaid : Prop := Claim7.holds Tryd.pinned (.plain (OpenSpec.upto vaultAmidSpec)) vaultAmidUptoCard

/-- THE SECOND FORM's CARD OF 'cablegramlaw12.VaultCounts'. -/
def vaultCountsUptoCard : Claim7 := { stood := { row := vaultCountsUptoRow, standIns := [], harness := (true, "fcfaa73e7025ff88b615ba9bce8d3b77844936043122074d4745d365590fa280"), looks := false }, kinds := [], alts := [], laidByText := true, laidKinds := [.data, .data], laidTests := true, laidLooks := .later }
def VaultCountsUptoCardSaid : Prop := Claim7.holds Tryd.pinned (.plain (OpenSpec.upto vaultCountsSpec)) vaultCountsUptoCard

/-- THE SECOND FORM's CARD OF 'cablegramlaw12.VaultRefused'. -/
def vaultRefusedUptoCard : Claim7 := { stood := { row := vaultRefusedUptoRow, standIns := [], harness := (true, "fcfaa73e7025ff88b615ba9bce8d3b77844936043122074d4745d365590fa280"), looks := false }, kinds := [], alts := [], laidByText := true, laidKinds := [.data, .data], laidTests := true, laidLooks := .later }
def VaultRefusedUptoCardSaid : Prop := Claim7.holds Tryd.pinned (.plain (OpenSpec.upto vaultRefusedSpec)) vaultRefusedUptoCard
end Rows
end Go.Proofs.YtpgbicbjlhkonaaDoor
