/-
  DERIVED. GIVEN WITH THE SEED: THE CARDS: each row of YteooofakpkbgoaaDoorRows.lean that lists a variable, with what it lists TIED to the program's text (the seventh form; the later family's looks); each row that meets fmt, with fmt's text TOLD by the authors' own Lean function (tested against real Go, not proved from fmt's source: count such statements apart). THE CARD IS WHAT COUNTS. Prove the row's statement (the work); the ties are given (YteooofakpkbgoaaDoorTie.lean); close each card by the builder's one call (the guide's Derived/Test/ToyasCard.lean, 'card_holds'). Laid BY PROGRAM, IN A SANDBOX (cutbox-door.mjs). By AI agents, Wed Nov 11 2026. No macro, syntax, notation, axiom, sorry.
-/
import Derived.Test.YteooofakpkbgoaaDoorRows
import GoSem.ClaimSeven
namespace Go.Proofs.YteooofakpkbgoaaDoor
namespace Rows

/-- THE TIED CARD OF 'lychgatelaw06.MatchTexts'. -/
def matchTextsCard : Claim7 := { stood := { row := matchTextsRow, standIns := [], harness := (true, "bcdfc769ec34773eef2e40f9661d941fd5bae7d3c091405b6828667f3bf36809"), looks := false }, kinds := [], alts := [], laidByText := true, laidKinds := [.data], laidTests := true, laidLooks := .later }
def MatchTextsCardSaid : Prop := Claim7.holds Tryd.pinned (.plain (OpenSpec.ofChange matchTextsSpec)) matchTextsCard

/-- THE TIED CARD OF 'lychgatelaw06.MatchFits'. -/
def matchFitsCard : Claim7 := { stood := { row := matchFitsRow, standIns := [], harness := (true, "bcdfc769ec34773eef2e40f9661d941fd5bae7d3c091405b6828667f3bf36809"), looks := false }, kinds := [], alts := [], laidByText := true, laidKinds := [.data], laidTests := true, laidLooks := .later }
def MatchFitsCardSaid : Prop := Claim7.holds Tryd.pinned (.plain (OpenSpec.ofChange matchFitsSpec)) matchFitsCard

/-- THE TIED CARD OF 'lychgatelaw06.MatchFields'. -/
def matchFieldsCard : Claim7 := { stood := { row := matchFieldsRow, standIns := [], harness := (true, "bcdfc769ec34773eef2e40f9661d941fd5bae7d3c091405b6828667f3bf36809"), looks := false }, kinds := [], alts := [], laidByText := true, laidKinds := [.data], laidTests := true, laidLooks := .later }
def MatchFieldsCardSaid : Prop := Claim7.holds Tryd.pinned (.plain (OpenSpec.ofChange matchFieldsSpec)) matchFieldsCard

/-- THE TIED CARD OF 'lychgatelaw06.MatchBack'. -/
def matchBackCard : Claim7 := { stood := { row := matchBackRow, standIns := [], harness := (true, "bcdfc769ec34773eef2e40f9661d941fd5bae7d3c091405b6828667f3bf36809"), looks := false }, kinds := [], alts := [], laidByText := true, laidKinds := [.data], laidTests := true, laidLooks := .later }
def MatchBackCardSaid : Prop := Claim7.holds Tryd.pinned (.plain (OpenSpec.ofChange matchBackSpec)) matchBackCard

/-- THE TIED CARD OF 'lychgatelaw06.MatchTurns'. -/
def matchTurnsCard : Claim7 := { stood := { row := matchTurnsRow, standIns := [], harness := (true, "bcdfc769ec34773eef2e40f9661d941fd5bae7d3c091405b6828667f3bf36809"), looks := false }, kinds := [], alts := [], laidByText := true, laidKinds := [.data], laidTests := true, laidLooks := .later }
def MatchTurnsCardSaid : Prop := Claim7.holds Tryd.pinned (.plain (OpenSpec.ofChange matchTurnsSpec)) matchTurnsCard

/-- THE TIED CARD OF 'lychgatelaw06.MatchPicks'. -/
def matchPicksCard : Claim7 := { stood := { row := matchPicksRow, standIns := [], harness := (true, "bcdfc769ec34773eef2e40f9661d941fd5bae7d3c091405b6828667f3bf36809"), looks := false }, kinds := [], alts := [], laidByText := true, laidKinds := [.data], laidTests := true, laidLooks := .later }
def MatchPicksCardSaid : Prop := Claim7.holds Tryd.pinned (.plain (OpenSpec.ofChange matchPicksSpec)) matchPicksCard

/-- THE TIED CARD OF 'lychgatelaw06.MatchAlls'. -/
def matchAllsCard : Claim7 := { stood := { row := matchAllsRow, standIns := [], harness := (true, "bcdfc769ec34773eef2e40f9661d941fd5bae7d3c091405b6828667f3bf36809"), looks := false }, kinds := [], alts := [], laidByText := true, laidKinds := [.data], laidTests := true, laidLooks := .later }
def MatchAllsCardSaid : Prop := Claim7.holds Tryd.pinned (.plain (OpenSpec.ofChange matchAllsSpec)) matchAllsCard

/-- THE TIED CARD OF 'lychgatelaw06.MatchNames'. -/
def matchNamesCard : Claim7 := { stood := { row := matchNamesRow, standIns := [], harness := (true, "bcdfc769ec34773eef2e40f9661d941fd5bae7d3c091405b6828667f3bf36809"), looks := false }, kinds := [], alts := [], laidByText := true, laidKinds := [.data], laidTests := true, laidLooks := .later }
def MatchNamesCardSaid : Prop := Claim7.holds Tryd.pinned (.plain (OpenSpec.ofChange matchNamesSpec)) matchNamesCard

/-- THE SECOND FORM's CARD OF 'lychgatelaw06.MatchTexts'. -/
def matchTextsUptoCard : Claim7 := { stood := { row := matchTextsUptoRow, standIns := [], harness := (true, "bcdfc769ec34773eef2e40f9661d941fd5bae7d3c091405b6828667f3bf36809"), looks := false }, kinds := [], alts := [], laidByText := true, laidKinds := [.data], laidTests := true, laidLooks := .later }
def MatchTextsUptoCardSaid : Prop := Claim7.holds Tryd.pinned (.plain (OpenSpec.upto matchTextsSpec)) matchTextsUptoCard

/-- THE SECOND FORM's CARD OF 'lychgatelaw06.MatchFits'. -/
def matchFitsUptoCard : Claim7 := { stood := { row := matchFitsUptoRow, standIns := [], harness := (true, "bcdfc769ec34773eef2e40f9661d941fd5bae7d3c091405b6828667f3bf36809"), looks := false }, kinds := [], alts := [], laidByText := true, laidKinds := [.data], laidTests := true, laidLooks := .later }
def MatchFitsUptoCardSaid : Prop := Claim7.holds Tryd.pinned (.plain (OpenSpec.upto matchFitsSpec)) matchFitsUptoCard

/-- THE SECOND FORM's CARD OF 'lychgatelaw06.MatchFields'. -/
def matchFieldsUptoCard : Claim7 := { stood := { row := matchFieldsUptoRow, standIns := [], harness := (true, "bcdfc769ec34773eef2e40f9661d941fd5bae7d3c091405b6828667f3bf36809"), looks := false }, kinds := [], alts := [], laidByText := true, laidKinds := [.data], laidTests := true, laidLooks := .later }
def MatchFieldsUptoCardSaid : Prop := Claim7.holds Tryd.pinned (.plain (OpenSpec.upto matchFieldsSpec)) matchFieldsUptoCard

/-- THE SECOND FORM's CARD OF 'lychgatelaw06.MatchBack'. -/
def matchBackUptoCard : Claim7 := { stood := { row := matchBackUptoRow, standIns := [], harness := (true, "bcdfc769ec34773eef2e40f9661d941fd5bae7d3c091405b6828667f3bf36809"), looks := false }, kinds := [], alts := [], laidByText := true, laidKinds := [.data], laidTests := true, laidLooks := .later }
def MatchBackUptoCardSaid : Prop := Claim7.holds Tryd.pinned (.plain (OpenSpec.upto matchBackSpec)) matchBackUptoCard

/-- THE SECOND FORM's CARD OF 'lychgatelaw06.MatchTurns'. -/
def matchTurnsUptoCard : Claim7 := { stood := { row := matchTurnsUptoRow, standIns := [], harness := (true, "bcdfc769ec34773eef2e40f9661d941fd5bae7d3c091405b6828667f3bf36809"), looks := false }, kinds := [], alts := [], laidByText := true, laidKinds := [.data], laidTests := true, laidLooks := .later }
def MatchTurnsUptoCardSaid : Prop := Claim7.holds Tryd.pinned (.plain (OpenSpec.upto matchTurnsSpec)) matchTurnsUptoCard

/-- THE SECOND FORM's CARD OF 'lychgatelaw06.MatchPicks'. -/
def matchPicksUptoCard : Claim7 := { stood := { row := matchPicksUptoRow, standIns := [], harness := (true, "bcdfc769ec34773eef2e40f9661d941fd5bae7d3c091405b6828667f3bf36809"), looks := false }, kinds := [], alts := [], laidByText := true, laidKinds := [.data], laidTests := true, laidLooks := .later }
def MatchPicksUptoCardSaid : Prop := Claim7.holds Tryd.pinned (.plain (OpenSpec.upto matchPicksSpec)) matchPicksUptoCard

/-- THE SECOND FORM's CARD OF 'lychgatelaw06.MatchAlls'. -/
def matchAllsUptoCard : Claim7 := { stood := { row := matchAllsUptoRow, standIns := [], harness := (true, "bcdfc769ec34773eef2e40f9661d941fd5bae7d3c091405b6828667f3bf36809"), looks := false }, kinds := [], alts := [], laidByText := true, laidKinds := [.data], laidTests := true, laidLooks := .later }
def MatchAllsUptoCardSaid : Prop := Claim7.holds Tryd.pinned (.plain (OpenSpec.upto matchAllsSpec)) matchAllsUptoCard

/-- THE SECOND FORM's CARD OF 'lychgatelaw06.MatchNames'. -/
def matchNamesUptoCard : Claim7 := { stood := { row := matchNamesUptoRow, standIns := [], harness := (true, "bcdfc769ec34773eef2e40f9661d941fd5bae7d3c091405b6828667f3bf36809"), looks := false }, kinds := [], alts := [], laidByText := true, laidKinds := [.data], laidTests := true, laidLooks := .later }
def MatchNamesUptoCardSaid : Prop := Claim7.holds Tryd.pinned (.plain (OpenSpec.upto matchNamesSpec)) matchNamesUptoCard
end Rows
end Go.Proofs.YteooofakpkbgoaaDoor
