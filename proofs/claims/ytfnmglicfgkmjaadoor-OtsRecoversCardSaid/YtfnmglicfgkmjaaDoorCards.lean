/-
  DERIVED. GIVEN WITH THE SEED: THE CARDS: each row of YtfnmglicfgkmjaaDoorRows.lean that lists a variable, with what it lists TIED to the program's text (the seventh form; the later family's looks); each row that meets fmt, with fmt's text TOLD by the authors' own Lean function (tested against real Go, not proved from fmt's source: count such statements apart). THE CARD IS WHAT COUNTS. Prove the row's statement (the work); the ties are given (YtfnmglicfgkmjaaDoorTie.lean); close each card by the builder's one call (the guide's Derived/Test/ToyasCard.lean, 'card_holds'). Laid BY PROGRAM, IN A SANDBOX (cutbox-door.mjs). By AI agents, Wed Nov 11 2026. No macro, syntax, notation, axiom, sorry.
-/
import Derived.Test.YtfnmglicfgkmjaaDoorRows
import GoSem.ClaimSeven
namespace Go.Proofs.YtfnmglicfgkmjaaDoor
namespace Rows

/-- THE TIED CARD OF 'cablegramlaw08.OtsDigits'. -/
def otsDigitsCard : Claim7 := { stood := { row := otsDigitsRow, standIns := [], harness := (true, "bc10fa5f65912a0f5b19583ffddccc8718e9ebe542637fb47ffc3156ebc673b5"), looks := false }, kinds := [], alts := [], laidByText := true, laidKinds := [.data, .data], laidTests := true, laidLooks := .later }
def OtsDigitsCardSaid : Prop := Claim7.holds Tryd.pinned (.plain (OpenSpec.ofChange otsDigitsSpec)) otsDigitsCard

/-- THE TIED CARD OF 'cablegramlaw08.OtsSigns'. -/
def otsSignsCard : Claim7 := { stood := { row := otsSignsRow, standIns := [], harness := (true, "bc10fa5f65912a0f5b19583ffddccc8718e9ebe542637fb47ffc3156ebc673b5"), looks := false }, kinds := [], alts := [], laidByText := true, laidKinds := [.data, .data], laidTests := true, laidLooks := .later }
def OtsSignsCardSaid : Prop := Claim7.holds Tryd.pinned (.plain (OpenSpec.ofChange otsSignsSpec)) otsSignsCard

/-- THE TIED CARD OF 'cablegramlaw08.OtsRecovers'. -/
def otsRecoversCard : Claim7 := { stood := { row := otsRecoversRow, standIns := [], harness := (true, "bc10fa5f65912a0f5b19583ffddccc8718e9ebe542637fb47ffc3156ebc673b5"), looks := false }, kinds := [], alts := [], laidByText := true, laidKinds := [.data, .data], laidTests := true, laidLooks := .later }
def OtsRecoversCardSaid : Prop := Claim7.holds Tryd.pinned (.plain (OpenSpec.ofChange otsRecoversSpec)) otsRecoversCard

/-- THE TIED CARD OF 'cablegramlaw08.OtsGuards'. -/
def otsGuardsCard : Claim7 := { stood := { row := otsGuardsRow, standIns := [], harness := (true, "bc10fa5f65912a0f5b19583ffddccc8718e9ebe542637fb47ffc3156ebc673b5"), looks := false }, kinds := [], alts := [], laidByText := true, laidKinds := [.data, .data], laidTests := true, laidLooks := .later }
def OtsGuardsCardSaid : Prop := Claim7.holds Tryd.pinned (.plain (OpenSpec.ofChange otsGuardsSpec)) otsGuardsCard

/-- THE TIED CARD OF 'cablegramlaw08.OtsParts'. -/
def otsPartsCard : Claim7 := { stood := { row := otsPartsRow, standIns := [], harness := (true, "bc10fa5f65912a0f5b19583ffddccc8718e9ebe542637fb47ffc3156ebc673b5"), looks := false }, kinds := [], alts := [], laidByText := true, laidKinds := [.data, .data], laidTests := true, laidLooks := .later }
def OtsPartsCardSaid : Prop := Claim7.holds Tryd.pinned (.plain (OpenSpec.ofChange otsPartsSpec)) otsPartsCard

/-- THE SECOND FORM's CARD OF 'cablegramlaw08.OtsDigits'. -/
def otsDigitsUptoCard : Claim7 := { stood := { row := otsDigitsUptoRow, standIns := [], harness := (true, "bc10fa5f65912a0f5b19583ffddccc8718e9ebe542637fb47ffc3156ebc673b5"), looks := false }, kinds := [], alts := [], laidByText := true, laidKinds := [.data, .data], laidTests := true, laidLooks := .later }
def OtsDigitsUptoCardSaid : Prop := Claim7.holds Tryd.pinned (.plain (OpenSpec.upto otsDigitsSpec)) otsDigitsUptoCard

/-- THE SECOND FORM's CARD OF 'cablegramlaw08.OtsSigns'. -/
def otsSignsUptoCard : Claim7 := { stood := { row := otsSignsUptoRow, standIns := [], harness := (true, "bc10fa5f65912a0f5b19583ffddccc8718e9ebe542637fb47ffc3156ebc673b5"), looks := false }, kinds := [], alts := [], laidByText := true, laidKinds := [.data, .data], laidTests := true, laidLooks := .later }
def OtsSignsUptoCardSaid : Prop := Claim7.holds Tryd.pinned (.plain (OpenSpec.upto otsSignsSpec)) otsSignsUptoCard

/-- THE SECOND FORM's CARD OF 'cablegramlaw08.OtsRecovers'. -/
def otsRecoversUptoCard : Claim7 := { stood := { row := otsRecoversUptoRow, standIns := [], harness := (true, "bc10fa5f65912a0f5b19583ffddccc8718e9ebe542637fb47ffc3156ebc673b5"), looks := false }, kinds := [], alts := [], laidByText := true, laidKinds := [.data, .data], laidTests := true, laidLooks := .later }
def OtsRecoversUptoCardSaid : Prop := Claim7.holds Tryd.pinned (.plain (OpenSpec.upto otsRecoversSpec)) otsRecoversUptoCard

/-- THE SECOND FORM's CARD OF 'cablegramlaw08.OtsGuards'. -/
def otsGuardsUptoCard : Claim7 := { stood := { row := otsGuardsUptoRow, standIns := [], harness := (true, "bc10fa5f65912a0f5b19583ffddccc8718e9ebe542637fb47ffc3156ebc673b5"), looks := false }, kinds := [], alts := [], laidByText := true, laidKinds := [.data, .data], laidTests := true, laidLooks := .later }
def OtsGuardsUptoCardSaid : Prop := Claim7.holds Tryd.pinned (.plain (OpenSpec.upto otsGuardsSpec)) otsGuardsUptoCard

/-- THE SECOND FORM's CARD OF 'cablegramlaw08.OtsParts'. -/
def otsPartsUptoCard : Claim7 := { stood := { row := otsPartsUptoRow, standIns := [], harness := (true, "bc10fa5f65912a0f5b19583ffddccc8718e9ebe542637fb47ffc3156ebc673b5"), looks := false }, kinds := [], alts := [], laidByText := true, laidKinds := [.data, .data], laidTests := true, laidLooks := .later }
def OtsPartsUptoCardSaid : Prop := Claim7.holds Tryd.pinned (.plain (OpenSpec.upto otsPartsSpec)) otsPartsUptoCard
end Rows
end Go.Proofs.YtfnmglicfgkmjaaDoor
