/-
  DERIVED. GIVEN WITH THE SEED: THE CARDS: each row of YtkmbllnnaljepaaDoorRows.lean that lists a variable, with what it lists TIED to the program's text (the seventh form; the later family's looks); each row that meets fmt, with fmt's text TOLD by the authors' own Lean function (tested against real Go, not proved from fmt's source: count such statements apart). THE CARD IS WHAT COUNTS. Prove the row's statement (the work); the ties are given (YtkmbllnnaljepaaDoorTie.lean); close each card by the builder's one call (the guide's Derived/Test/ToyasCard.lean, 'card_holds'). Laid BY PROGRAM, IN A SANDBOX (cutbox-door.mjs). By AI agents, Wed Nov 11 2026. No macro, syntax, notation, axiom, sorry.
-/
import Derived.Test.YtkmbllnnaljepaaDoorRows
import GoSem.ClaimSeven
namespace Go.Proofs.YtkmbllnnaljepaaDoor
namespace Rows

/-- THE TIED CARD OF 'lychgatelaw01.LabelFlows'. -/
def labelFlowsCard : Claim7 := { stood := { row := labelFlowsRow, standIns := [], harness := (true, "8fd01fd6e66191ce0253f9621ca83d0ccfa6a1a3f984f71e989acf4fd94b5cf1"), looks := true }, kinds := [], alts := [], laidByText := true, laidKinds := [.data, .data, .data, .sentinel, .sentinel], laidTests := true, laidLooks := .later }
def LabelFlowsCardSaid : Prop := Claim7.holds Tryd.pinned (.plain (OpenSpec.ofChange labelFlowsSpec)) labelFlowsCard

/-- THE TIED CARD OF 'lychgatelaw01.LabelTexts'. -/
def labelTextsCard : Claim7 := { stood := { row := labelTextsRow, standIns := [], harness := (true, "8fd01fd6e66191ce0253f9621ca83d0ccfa6a1a3f984f71e989acf4fd94b5cf1"), looks := true }, kinds := [], alts := [], laidByText := true, laidKinds := [.data, .data, .data, .sentinel, .sentinel], laidTests := true, laidLooks := .later }
def LabelTextsCardSaid : Prop := Claim7.holds Tryd.pinned (.plain (OpenSpec.ofChange labelTextsSpec)) labelTextsCard

/-- THE TIED CARD OF 'lychgatelaw01.LabelOrder'. -/
def labelOrderCard : Claim7 := { stood := { row := labelOrderRow, standIns := [], harness := (true, "8fd01fd6e66191ce0253f9621ca83d0ccfa6a1a3f984f71e989acf4fd94b5cf1"), looks := true }, kinds := [], alts := [], laidByText := true, laidKinds := [.data, .data, .data, .sentinel, .sentinel], laidTests := true, laidLooks := .later }
def LabelOrderCardSaid : Prop := Claim7.holds Tryd.pinned (.plain (OpenSpec.ofChange labelOrderSpec)) labelOrderCard

/-- THE TIED CARD OF 'lychgatelaw01.LabelLeast'. -/
def labelLeastCard : Claim7 := { stood := { row := labelLeastRow, standIns := [], harness := (true, "8fd01fd6e66191ce0253f9621ca83d0ccfa6a1a3f984f71e989acf4fd94b5cf1"), looks := true }, kinds := [], alts := [], laidByText := true, laidKinds := [.data, .data, .data, .sentinel, .sentinel], laidTests := true, laidLooks := .later }
def LabelLeastCardSaid : Prop := Claim7.holds Tryd.pinned (.plain (OpenSpec.ofChange labelLeastSpec)) labelLeastCard

/-- THE TIED CARD OF 'lychgatelaw01.LabelAll'. -/
def labelAllCard : Claim7 := { stood := { row := labelAllRow, standIns := [], harness := (true, "8fd01fd6e66191ce0253f9621ca83d0ccfa6a1a3f984f71e989acf4fd94b5cf1"), looks := true }, kinds := [], alts := [], laidByText := true, laidKinds := [.data, .data, .data, .sentinel, .sentinel], laidTests := true, laidLooks := .later }
def LabelAllCardSaid : Prop := Claim7.holds Tryd.pinned (.plain (OpenSpec.ofChange labelAllSpec)) labelAllCard

/-- THE TIED CARD OF 'lychgatelaw01.LabelTeams'. -/
def labelTeamsCard : Claim7 := { stood := { row := labelTeamsRow, standIns := [], harness := (true, "8fd01fd6e66191ce0253f9621ca83d0ccfa6a1a3f984f71e989acf4fd94b5cf1"), looks := true }, kinds := [], alts := [], laidByText := true, laidKinds := [.data, .data, .data, .sentinel, .sentinel], laidTests := true, laidLooks := .later }
def LabelTeamsCardSaid : Prop := Claim7.holds Tryd.pinned (.plain (OpenSpec.ofChange labelTeamsSpec)) labelTeamsCard

/-- THE TIED CARD OF 'lychgatelaw01.LabelMixed'. -/
def labelMixedCard : Claim7 := { stood := { row := labelMixedRow, standIns := [], harness := (true, "8fd01fd6e66191ce0253f9621ca83d0ccfa6a1a3f984f71e989acf4fd94b5cf1"), looks := true }, kinds := [], alts := [], laidByText := true, laidKinds := [.data, .data, .data, .sentinel, .sentinel], laidTests := true, laidLooks := .later }
def LabelMixedCardSaid : Prop := Claim7.holds Tryd.pinned (.plain (OpenSpec.ofChange labelMixedSpec)) labelMixedCard

/-- THE TIED CARD OF 'lychgatelaw01.LabelOnly'. -/
def labelOnlyCard : Claim7 := { stood := { row := labelOnlyRow, standIns := [], harness := (true, "8fd01fd6e66191ce0253f9621ca83d0ccfa6a1a3f984f71e989acf4fd94b5cf1"), looks := true }, kinds := [], alts := [], laidByText := true, laidKinds := [.data, .data, .data, .sentinel, .sentinel], laidTests := true, laidLooks := .later }
def LabelOnlyCardSaid : Prop := Claim7.holds Tryd.pinned (.plain (OpenSpec.ofChange labelOnlySpec)) labelOnlyCard

/-- THE SECOND FORM's CARD OF 'lychgatelaw01.LabelFlows'. -/
def labelFlowsUptoCard : Claim7 := { stood := { row := labelFlowsUptoRow, standIns := [], harness := (true, "8fd01fd6e66191ce0253f9621ca83d0ccfa6a1a3f984f71e989acf4fd94b5cf1"), looks := true }, kinds := [], alts := [], laidByText := true, laidKinds := [.data, .data, .data, .sentinel, .sentinel], laidTests := true, laidLooks := .later }
def LabelFlowsUptoCardSaid : Prop := Claim7.holds Tryd.pinned (.plain (OpenSpec.upto labelFlowsSpec)) labelFlowsUptoCard

/-- THE SECOND FORM's CARD OF 'lychgatelaw01.LabelTexts'. -/
def labelTextsUptoCard : Claim7 := { stood := { row := labelTextsUptoRow, standIns := [], harness := (true, "8fd01fd6e66191ce0253f9621ca83d0ccfa6a1a3f984f71e989acf4fd94b5cf1"), looks := true }, kinds := [], alts := [], laidByText := true, laidKinds := [.data, .data, .data, .sentinel, .sentinel], laidTests := true, laidLooks := .later }
def LabelTextsUptoCardSaid : Prop := Claim7.holds Tryd.pinned (.plain (OpenSpec.upto labelTextsSpec)) labelTextsUptoCard

/-- THE SECOND FORM's CARD OF 'lychgatelaw01.LabelOrder'. -/
def labelOrderUptoCard : Claim7 := { stood := { row := labelOrderUptoRow, standIns := [], harness := (true, "8fd01fd6e66191ce0253f9621ca83d0ccfa6a1a3f984f71e989acf4fd94b5cf1"), looks := true }, kinds := [], alts := [], laidByText := true, laidKinds := [.data, .data, .data, .sentinel, .sentinel], laidTests := true, laidLooks := .later }
def LabelOrderUptoCardSaid : Prop := Claim7.holds Tryd.pinned (.plain (OpenSpec.upto labelOrderSpec)) labelOrderUptoCard

/-- THE SECOND FORM's CARD OF 'lychgatelaw01.LabelLeast'. -/
def labelLeastUptoCard : Claim7 := { stood := { row := labelLeastUptoRow, standIns := [], harness := (true, "8fd01fd6e66191ce0253f9621ca83d0ccfa6a1a3f984f71e989acf4fd94b5cf1"), looks := true }, kinds := [], alts := [], laidByText := true, laidKinds := [.data, .data, .data, .sentinel, .sentinel], laidTests := true, laidLooks := .later }
def LabelLeastUptoCardSaid : Prop := Claim7.holds Tryd.pinned (.plain (OpenSpec.upto labelLeastSpec)) labelLeastUptoCard

/-- THE SECOND FORM's CARD OF 'lychgatelaw01.LabelAll'. -/
def labelAllUptoCard : Claim7 := { stood := { row := labelAllUptoRow, standIns := [], harness := (true, "8fd01fd6e66191ce0253f9621ca83d0ccfa6a1a3f984f71e989acf4fd94b5cf1"), looks := true }, kinds := [], alts := [], laidByText := true, laidKinds := [.data, .data, .data, .sentinel, .sentinel], laidTests := true, laidLooks := .later }
def LabelAllUptoCardSaid : Prop := Claim7.holds Tryd.pinned (.plain (OpenSpec.upto labelAllSpec)) labelAllUptoCard

/-- THE SECOND FORM's CARD OF 'lychgatelaw01.LabelTeams'. -/
def labelTeamsUptoCard : Claim7 := { stood := { row := labelTeamsUptoRow, standIns := [], harness := (true, "8fd01fd6e66191ce0253f9621ca83d0ccfa6a1a3f984f71e989acf4fd94b5cf1"), looks := true }, kinds := [], alts := [], laidByText := true, laidKinds := [.data, .data, .data, .sentinel, .sentinel], laidTests := true, laidLooks := .later }
def LabelTeamsUptoCardSaid : Prop := Claim7.holds Tryd.pinned (.plain (OpenSpec.upto labelTeamsSpec)) labelTeamsUptoCard

/-- THE SECOND FORM's CARD OF 'lychgatelaw01.LabelMixed'. -/
def labelMixedUptoCard : Claim7 := { stood := { row := labelMixedUptoRow, standIns := [], harness := (true, "8fd01fd6e66191ce0253f9621ca83d0ccfa6a1a3f984f71e989acf4fd94b5cf1"), looks := true }, kinds := [], alts := [], laidByText := true, laidKinds := [.data, .data, .data, .sentinel, .sentinel], laidTests := true, laidLooks := .later }
def LabelMixedUptoCardSaid : Prop := Claim7.holds Tryd.pinned (.plain (OpenSpec.upto labelMixedSpec)) labelMixedUptoCard

/-- THE SECOND FORM's CARD OF 'lychgatelaw01.LabelOnly'. -/
def labelOnlyUptoCard : Claim7 := { stood := { row := labelOnlyUptoRow, standIns := [], harness := (true, "8fd01fd6e66191ce0253f9621ca83d0ccfa6a1a3f984f71e989acf4fd94b5cf1"), looks := true }, kinds := [], alts := [], laidByText := true, laidKinds := [.data, .data, .data, .sentinel, .sentinel], laidTests := true, laidLooks := .later }
def LabelOnlyUptoCardSaid : Prop := Claim7.holds Tryd.pinned (.plain (OpenSpec.upto labelOnlySpec)) labelOnlyUptoCard
end Rows
end Go.Proofs.YtkmbllnnaljepaaDoor
