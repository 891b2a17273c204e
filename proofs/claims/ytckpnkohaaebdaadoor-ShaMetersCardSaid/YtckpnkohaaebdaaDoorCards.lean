/-
  DERIVED. GIVEN WITH THE SEED: THE CARDS: each row of YtckpnkohaaebdaaDoorRows.lean that lists a variable, with what it lists TIED to the program's text (the seventh form; the later family's looks); each row that meets fmt, with fmt's text TOLD by the authors' own Lean function (tested against real Go, not proved from fmt's source: count such statements apart). THE CARD IS WHAT COUNTS. Prove the row's statement (the work); the ties are given (YtckpnkohaaebdaaDoorTie.lean); close each card by the builder's one call (the guide's Derived/Test/ToyasCard.lean, 'card_holds'). Laid BY PROGRAM, IN A SANDBOX (cutbox-door.mjs). By AI agents, Wed Nov 11 2026. No macro, syntax, notation, axiom, sorry.
-/
import Derived.Test.YtckpnkohaaebdaaDoorRows
import GoSem.ClaimSeven
namespace Go.Proofs.YtckpnkohaaebdaaDoor
namespace Rows

/-- THE TIED CARD OF 'cablegramlaw02.ShaBlocks'. -/
def shaBlocksCard : Claim7 := { stood := { row := shaBlocksRow, standIns := [], harness := (true, "c055b84d3b6a8df1660a4fd5c3e4ff46454fafb4f8fb01d144aef4917813df6d"), looks := false }, kinds := [], alts := [], laidByText := true, laidKinds := [.data, .data], laidTests := true, laidLooks := .later }
def ShaBlocksCardSaid : Prop := Claim7.holds Tryd.pinned (.plain (OpenSpec.ofChange shaBlocksSpec)) shaBlocksCard

/-- THE TIED CARD OF 'cablegramlaw02.ShaSums'. -/
def shaSumsCard : Claim7 := { stood := { row := shaSumsRow, standIns := [], harness := (true, "c055b84d3b6a8df1660a4fd5c3e4ff46454fafb4f8fb01d144aef4917813df6d"), looks := false }, kinds := [], alts := [], laidByText := true, laidKinds := [.data, .data], laidTests := true, laidLooks := .later }
def ShaSumsCardSaid : Prop := Claim7.holds Tryd.pinned (.plain (OpenSpec.ofChange shaSumsSpec)) shaSumsCard

/-- THE TIED CARD OF 'cablegramlaw02.ShaMeters'. -/
def shaMetersCard : Claim7 := { stood := { row := shaMetersRow, standIns := [], harness := (true, "c055b84d3b6a8df1660a4fd5c3e4ff46454fafb4f8fb01d144aef4917813df6d"), looks := false }, kinds := [], alts := [], laidByText := true, laidKinds := [.data, .data], laidTests := true, laidLooks := .later }
def ShaMetersCardSaid : Prop := Claim7.holds Tryd.pinned (.plain (OpenSpec.ofChange shaMetersSpec)) shaMetersCard

/-- THE TIED CARD OF 'cablegramlaw02.ShaParts'. -/
def shaPartsCard : Claim7 := { stood := { row := shaPartsRow, standIns := [], harness := (true, "c055b84d3b6a8df1660a4fd5c3e4ff46454fafb4f8fb01d144aef4917813df6d"), looks := false }, kinds := [], alts := [], laidByText := true, laidKinds := [.data, .data], laidTests := true, laidLooks := .later }
def ShaPartsCardSaid : Prop := Claim7.holds Tryd.pinned (.plain (OpenSpec.ofChange shaPartsSpec)) shaPartsCard

/-- THE TIED CARD OF 'cablegramlaw02.ShaWhole'. -/
def shaWholeCard : Claim7 := { stood := { row := shaWholeRow, standIns := [], harness := (true, "c055b84d3b6a8df1660a4fd5c3e4ff46454fafb4f8fb01d144aef4917813df6d"), looks := false }, kinds := [], alts := [], laidByText := true, laidKinds := [.data, .data], laidTests := true, laidLooks := .later }
def ShaWholeCardSaid : Prop := Claim7.holds Tryd.pinned (.plain (OpenSpec.ofChange shaWholeSpec)) shaWholeCard

/-- THE TIED CARD OF 'cablegramlaw02.ShaFolds'. -/
def shaFoldsCard : Claim7 := { stood := { row := shaFoldsRow, standIns := [], harness := (true, "c055b84d3b6a8df1660a4fd5c3e4ff46454fafb4f8fb01d144aef4917813df6d"), looks := false }, kinds := [], alts := [], laidByText := true, laidKinds := [.data, .data], laidTests := true, laidLooks := .later }
def ShaFoldsCardSaid : Prop := Claim7.holds Tryd.pinned (.plain (OpenSpec.ofChange shaFoldsSpec)) shaFoldsCard

/-- THE TIED CARD OF 'cablegramlaw03.MacSums'. -/
def macSumsCard : Claim7 := { stood := { row := macSumsRow, standIns := [], harness := (true, "c055b84d3b6a8df1660a4fd5c3e4ff46454fafb4f8fb01d144aef4917813df6d"), looks := false }, kinds := [], alts := [], laidByText := true, laidKinds := [.data, .data], laidTests := true, laidLooks := .later }
def MacSumsCardSaid : Prop := Claim7.holds Tryd.pinned (.plain (OpenSpec.ofChange macSumsSpec)) macSumsCard

/-- THE TIED CARD OF 'cablegramlaw03.MacExpands'. -/
def macExpandsCard : Claim7 := { stood := { row := macExpandsRow, standIns := [], harness := (true, "c055b84d3b6a8df1660a4fd5c3e4ff46454fafb4f8fb01d144aef4917813df6d"), looks := false }, kinds := [], alts := [], laidByText := true, laidKinds := [.data, .data], laidTests := true, laidLooks := .later }
def MacExpandsCardSaid : Prop := Claim7.holds Tryd.pinned (.plain (OpenSpec.ofChange macExpandsSpec)) macExpandsCard

/-- THE TIED CARD OF 'cablegramlaw03.MacDerives'. -/
def macDerivesCard : Claim7 := { stood := { row := macDerivesRow, standIns := [], harness := (true, "c055b84d3b6a8df1660a4fd5c3e4ff46454fafb4f8fb01d144aef4917813df6d"), looks := false }, kinds := [], alts := [], laidByText := true, laidKinds := [.data, .data], laidTests := true, laidLooks := .later }
def MacDerivesCardSaid : Prop := Claim7.holds Tryd.pinned (.plain (OpenSpec.ofChange macDerivesSpec)) macDerivesCard

/-- THE TIED CARD OF 'cablegramlaw03.MacLonger'. -/
def macLongerCard : Claim7 := { stood := { row := macLongerRow, standIns := [], harness := (true, "c055b84d3b6a8df1660a4fd5c3e4ff46454fafb4f8fb01d144aef4917813df6d"), looks := false }, kinds := [], alts := [], laidByText := true, laidKinds := [.data, .data], laidTests := true, laidLooks := .later }
def MacLongerCardSaid : Prop := Claim7.holds Tryd.pinned (.plain (OpenSpec.ofChange macLongerSpec)) macLongerCard

/-- THE TIED CARD OF 'cablegramlaw03.MacZeros'. -/
def macZerosCard : Claim7 := { stood := { row := macZerosRow, standIns := [], harness := (true, "c055b84d3b6a8df1660a4fd5c3e4ff46454fafb4f8fb01d144aef4917813df6d"), looks := false }, kinds := [], alts := [], laidByText := true, laidKinds := [.data, .data], laidTests := true, laidLooks := .later }
def MacZerosCardSaid : Prop := Claim7.holds Tryd.pinned (.plain (OpenSpec.ofChange macZerosSpec)) macZerosCard

/-- THE SECOND FORM's CARD OF 'cablegramlaw02.ShaBlocks'. -/
def shaBlocksUptoCard : Claim7 := { stood := { row := shaBlocksUptoRow, standIns := [], harness := (true, "c055b84d3b6a8df1660a4fd5c3e4ff46454fafb4f8fb01d144aef4917813df6d"), looks := false }, kinds := [], alts := [], laidByText := true, laidKinds := [.data, .data], laidTests := true, laidLooks := .later }
def ShaBlocksUptoCardSaid : Prop := Claim7.holds Tryd.pinned (.plain (OpenSpec.upto shaBlocksSpec)) shaBlocksUptoCard

/-- THE SECOND FORM's CARD OF 'cablegramlaw02.ShaSums'. -/
def shaSumsUptoCard : Claim7 := { stood := { row := shaSumsUptoRow, standIns := [], harness := (true, "c055b84d3b6a8df1660a4fd5c3e4ff46454fafb4f8fb01d144aef4917813df6d"), looks := false }, kinds := [], alts := [], laidByText := true, laidKinds := [.data, .data], laidTests := true, laidLooks := .later }
def ShaSumsUptoCardSaid : Prop := Claim7.holds Tryd.pinned (.plain (OpenSpec.upto shaSumsSpec)) shaSumsUptoCard

/-- THE SECOND FORM's CARD OF 'cablegramlaw02.ShaMeters'. -/
def shaMetersUptoCard : Claim7 := { stood := { row := shaMetersUptoRow, standIns := [], harness := (true, "c055b84d3b6a8df1660a4fd5c3e4ff46454fafb4f8fb01d144aef4917813df6d"), looks := false }, kinds := [], alts := [], laidByText := true, laidKinds := [.data, .data], laidTests := true, laidLooks := .later }
def ShaMetersUptoCardSaid : Prop := Claim7.holds Tryd.pinned (.plain (OpenSpec.upto shaMetersSpec)) shaMetersUptoCard

/-- THE SECOND FORM's CARD OF 'cablegramlaw02.ShaParts'. -/
def shaPartsUptoCard : Claim7 := { stood := { row := shaPartsUptoRow, standIns := [], harness := (true, "c055b84d3b6a8df1660a4fd5c3e4ff46454fafb4f8fb01d144aef4917813df6d"), looks := false }, kinds := [], alts := [], laidByText := true, laidKinds := [.data, .data], laidTests := true, laidLooks := .later }
def ShaPartsUptoCardSaid : Prop := Claim7.holds Tryd.pinned (.plain (OpenSpec.upto shaPartsSpec)) shaPartsUptoCard

/-- THE SECOND FORM's CARD OF 'cablegramlaw02.ShaWhole'. -/
def shaWholeUptoCard : Claim7 := { stood := { row := shaWholeUptoRow, standIns := [], harness := (true, "c055b84d3b6a8df1660a4fd5c3e4ff46454fafb4f8fb01d144aef4917813df6d"), looks := false }, kinds := [], alts := [], laidByText := true, laidKinds := [.data, .data], laidTests := true, laidLooks := .later }
def ShaWholeUptoCardSaid : Prop := Claim7.holds Tryd.pinned (.plain (OpenSpec.upto shaWholeSpec)) shaWholeUptoCard

/-- THE SECOND FORM's CARD OF 'cablegramlaw02.ShaFolds'. -/
def shaFoldsUptoCard : Claim7 := { stood := { row := shaFoldsUptoRow, standIns := [], harness := (true, "c055b84d3b6a8df1660a4fd5c3e4ff46454fafb4f8fb01d144aef4917813df6d"), looks := false }, kinds := [], alts := [], laidByText := true, laidKinds := [.data, .data], laidTests := true, laidLooks := .later }
def ShaFoldsUptoCardSaid : Prop := Claim7.holds Tryd.pinned (.plain (OpenSpec.upto shaFoldsSpec)) shaFoldsUptoCard

/-- THE SECOND FORM's CARD OF 'cablegramlaw03.MacSums'. -/
def macSumsUptoCard : Claim7 := { stood := { row := macSumsUptoRow, standIns := [], harness := (true, "c055b84d3b6a8df1660a4fd5c3e4ff46454fafb4f8fb01d144aef4917813df6d"), looks := false }, kinds := [], alts := [], laidByText := true, laidKinds := [.data, .data], laidTests := true, laidLooks := .later }
def MacSumsUptoCardSaid : Prop := Claim7.holds Tryd.pinned (.plain (OpenSpec.upto macSumsSpec)) macSumsUptoCard

/-- THE SECOND FORM's CARD OF 'cablegramlaw03.MacExpands'. -/
def macExpandsUptoCard : Claim7 := { stood := { row := macExpandsUptoRow, standIns := [], harness := (true, "c055b84d3b6a8df1660a4fd5c3e4ff46454fafb4f8fb01d144aef4917813df6d"), looks := false }, kinds := [], alts := [], laidByText := true, laidKinds := [.data, .data], laidTests := true, laidLooks := .later }
def MacExpandsUptoCardSaid : Prop := Claim7.holds Tryd.pinned (.plain (OpenSpec.upto macExpandsSpec)) macExpandsUptoCard

/-- THE SECOND FORM's CARD OF 'cablegramlaw03.MacDerives'. -/
def macDerivesUptoCard : Claim7 := { stood := { row := macDerivesUptoRow, standIns := [], harness := (true, "c055b84d3b6a8df1660a4fd5c3e4ff46454fafb4f8fb01d144aef4917813df6d"), looks := false }, kinds := [], alts := [], laidByText := true, laidKinds := [.data, .data], laidTests := true, laidLooks := .later }
def MacDerivesUptoCardSaid : Prop := Claim7.holds Tryd.pinned (.plain (OpenSpec.upto macDerivesSpec)) macDerivesUptoCard

/-- THE SECOND FORM's CARD OF 'cablegramlaw03.MacLonger'. -/
def macLongerUptoCard : Claim7 := { stood := { row := macLongerUptoRow, standIns := [], harness := (true, "c055b84d3b6a8df1660a4fd5c3e4ff46454fafb4f8fb01d144aef4917813df6d"), looks := false }, kinds := [], alts := [], laidByText := true, laidKinds := [.data, .data], laidTests := true, laidLooks := .later }
def MacLongerUptoCardSaid : Prop := Claim7.holds Tryd.pinned (.plain (OpenSpec.upto macLongerSpec)) macLongerUptoCard

/-- THE SECOND FORM's CARD OF 'cablegramlaw03.MacZeros'. -/
def macZerosUptoCard : Claim7 := { stood := { row := macZerosUptoRow, standIns := [], harness := (true, "c055b84d3b6a8df1660a4fd5c3e4ff46454fafb4f8fb01d144aef4917813df6d"), looks := false }, kinds := [], alts := [], laidByText := true, laidKinds := [.data, .data], laidTests := true, laidLooks := .later }
def MacZerosUptoCardSaid : Prop := Claim7.holds Tryd.pinned (.plain (OpenSpec.upto macZerosSpec)) macZerosUptoCard
end Rows
end Go.Proofs.YtckpnkohaaebdaaDoor
