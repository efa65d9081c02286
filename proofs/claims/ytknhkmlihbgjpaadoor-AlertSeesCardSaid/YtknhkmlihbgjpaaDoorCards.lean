/-
  DERIVED. GIVEN WITH THE SEED: THE CARDS: each row of YtknhkmlihbgjpaaDoorRows.lean that lists a variable, with what it lists TIED to the program's text (the seventh form; the later family's looks); each row that meets fmt, with fmt's text TOLD by the authors' own Lean function (tested against real Go, not proved from fmt's source: count such statements apart). THE CARD IS WHAT COUNTS. Prove the row's statement (the work); the ties are given (YtknhkmlihbgjpaaDoorTie.lean); close each card by the builder's one call (the guide's Derived/Test/ToyasCard.lean, 'card_holds'). Laid BY PROGRAM, IN A SANDBOX (cutbox-door.mjs). By AI agents, Wed Nov 11 2026. No macro, syntax, notation, axiom, sorry.
-/
import Derived.Test.YtknhkmlihbgjpaaDoorRows
import GoSem.ClaimSeven
namespace Go.Proofs.YtknhkmlihbgjpaaDoor
namespace Rows

/-- THE TIED CARD OF 'lychgatelaw09.AlertIs'. -/
def alertIsCard : Claim7 := { stood := { row := alertIsRow, standIns := [], harness := (true, "9f50b1e4b874070b1440fac6ef541339359be3f245a4c37c0caf700e986614a8"), looks := false }, kinds := [], alts := [], laidByText := true, laidKinds := [.data, .data], laidTests := true, laidLooks := .later }
def AlertIsCardSaid : Prop := Claim7.holds Tryd.pinned (.plain (OpenSpec.ofChange alertIsSpec)) alertIsCard

/-- THE TIED CARD OF 'lychgatelaw09.AlertCuts'. -/
def alertCutsCard : Claim7 := { stood := { row := alertCutsRow, standIns := [], harness := (true, "9f50b1e4b874070b1440fac6ef541339359be3f245a4c37c0caf700e986614a8"), looks := false }, kinds := [], alts := [], laidByText := true, laidKinds := [.data, .data], laidTests := true, laidLooks := .later }
def AlertCutsCardSaid : Prop := Claim7.holds Tryd.pinned (.plain (OpenSpec.ofChange alertCutsSpec)) alertCutsCard

/-- THE TIED CARD OF 'lychgatelaw09.AlertApart'. -/
def alertApartCard : Claim7 := { stood := { row := alertApartRow, standIns := [], harness := (true, "9f50b1e4b874070b1440fac6ef541339359be3f245a4c37c0caf700e986614a8"), looks := false }, kinds := [], alts := [], laidByText := true, laidKinds := [.data, .data], laidTests := true, laidLooks := .later }
def AlertApartCardSaid : Prop := Claim7.holds Tryd.pinned (.plain (OpenSpec.ofChange alertApartSpec)) alertApartCard

/-- THE TIED CARD OF 'lychgatelaw09.AlertSees'. -/
def alertSeesCard : Claim7 := { stood := { row := alertSeesRow, standIns := [], harness := (true, "9f50b1e4b874070b1440fac6ef541339359be3f245a4c37c0caf700e986614a8"), looks := false }, kinds := [], alts := [], laidByText := true, laidKinds := [.data, .data], laidTests := true, laidLooks := .later }
def AlertSeesCardSaid : Prop := Claim7.holds Tryd.pinned (.plain (OpenSpec.ofChange alertSeesSpec)) alertSeesCard

/-- THE TIED CARD OF 'lychgatelaw09.AlertMerges'. -/
def alertMergesCard : Claim7 := { stood := { row := alertMergesRow, standIns := [], harness := (true, "9f50b1e4b874070b1440fac6ef541339359be3f245a4c37c0caf700e986614a8"), looks := false }, kinds := [], alts := [], laidByText := true, laidKinds := [.data, .data], laidTests := true, laidLooks := .later }
def AlertMergesCardSaid : Prop := Claim7.holds Tryd.pinned (.plain (OpenSpec.ofChange alertMergesSpec)) alertMergesCard

/-- THE TIED CARD OF 'lychgatelaw09.AlertIds'. -/
def alertIdsCard : Claim7 := { stood := { row := alertIdsRow, standIns := [], harness := (true, "9f50b1e4b874070b1440fac6ef541339359be3f245a4c37c0caf700e986614a8"), looks := false }, kinds := [], alts := [], laidByText := true, laidKinds := [.data, .data], laidTests := true, laidLooks := .later }
def AlertIdsCardSaid : Prop := Claim7.holds Tryd.pinned (.plain (OpenSpec.ofChange alertIdsSpec)) alertIdsCard

/-- THE TIED CARD OF 'lychgatelaw09.AlertTimes'. -/
def alertTimesCard : Claim7 := { stood := { row := alertTimesRow, standIns := [], harness := (true, "9f50b1e4b874070b1440fac6ef541339359be3f245a4c37c0caf700e986614a8"), looks := false }, kinds := [], alts := [], laidByText := true, laidKinds := [.data, .data], laidTests := true, laidLooks := .later }
def AlertTimesCardSaid : Prop := Claim7.holds Tryd.pinned (.plain (OpenSpec.ofChange alertTimesSpec)) alertTimesCard

/-- THE TIED CARD OF 'lychgatelaw09.AlertNone'. -/
def alertNoneCard : Claim7 := { stood := { row := alertNoneRow, standIns := [], harness := (true, "9f50b1e4b874070b1440fac6ef541339359be3f245a4c37c0caf700e986614a8"), looks := false }, kinds := [], alts := [], laidByText := true, laidKinds := [.data, .data], laidTests := true, laidLooks := .later }
def AlertNoneCardSaid : Prop := Claim7.holds Tryd.pinned (.plain (OpenSpec.ofChange alertNoneSpec)) alertNoneCard

/-- THE SECOND FORM's CARD OF 'lychgatelaw09.AlertIs'. -/
def alertIsUptoCard : Claim7 := { stood := { row := alertIsUptoRow, standIns := [], harness := (true, "9f50b1e4b874070b1440fac6ef541339359be3f245a4c37c0caf700e986614a8"), looks := false }, kinds := [], alts := [], laidByText := true, laidKinds := [.data, .data], laidTests := true, laidLooks := .later }
def AlertIsUptoCardSaid : Prop := Claim7.holds Tryd.pinned (.plain (OpenSpec.upto alertIsSpec)) alertIsUptoCard

/-- THE SECOND FORM's CARD OF 'lychgatelaw09.AlertCuts'. -/
def alertCutsUptoCard : Claim7 := { stood := { row := alertCutsUptoRow, standIns := [], harness := (true, "9f50b1e4b874070b1440fac6ef541339359be3f245a4c37c0caf700e986614a8"), looks := false }, kinds := [], alts := [], laidByText := true, laidKinds := [.data, .data], laidTests := true, laidLooks := .later }
def AlertCutsUptoCardSaid : Prop := Claim7.holds Tryd.pinned (.plain (OpenSpec.upto alertCutsSpec)) alertCutsUptoCard

/-- THE SECOND FORM's CARD OF 'lychgatelaw09.AlertApart'. -/
def alertApartUptoCard : Claim7 := { stood := { row := alertApartUptoRow, standIns := [], harness := (true, "9f50b1e4b874070b1440fac6ef541339359be3f245a4c37c0caf700e986614a8"), looks := false }, kinds := [], alts := [], laidByText := true, laidKinds := [.data, .data], laidTests := true, laidLooks := .later }
def AlertApartUptoCardSaid : Prop := Claim7.holds Tryd.pinned (.plain (OpenSpec.upto alertApartSpec)) alertApartUptoCard

/-- THE SECOND FORM's CARD OF 'lychgatelaw09.AlertSees'. -/
def alertSeesUptoCard : Claim7 := { stood := { row := alertSeesUptoRow, standIns := [], harness := (true, "9f50b1e4b874070b1440fac6ef541339359be3f245a4c37c0caf700e986614a8"), looks := false }, kinds := [], alts := [], laidByText := true, laidKinds := [.data, .data], laidTests := true, laidLooks := .later }
def AlertSeesUptoCardSaid : Prop := Claim7.holds Tryd.pinned (.plain (OpenSpec.upto alertSeesSpec)) alertSeesUptoCard

/-- THE SECOND FORM's CARD OF 'lychgatelaw09.AlertMerges'. -/
def alertMergesUptoCard : Claim7 := { stood := { row := alertMergesUptoRow, standIns := [], harness := (true, "9f50b1e4b874070b1440fac6ef541339359be3f245a4c37c0caf700e986614a8"), looks := false }, kinds := [], alts := [], laidByText := true, laidKinds := [.data, .data], laidTests := true, laidLooks := .later }
def AlertMergesUptoCardSaid : Prop := Claim7.holds Tryd.pinned (.plain (OpenSpec.upto alertMergesSpec)) alertMergesUptoCard

/-- THE SECOND FORM's CARD OF 'lychgatelaw09.AlertIds'. -/
def alertIdsUptoCard : Claim7 := { stood := { row := alertIdsUptoRow, standIns := [], harness := (true, "9f50b1e4b874070b1440fac6ef541339359be3f245a4c37c0caf700e986614a8"), looks := false }, kinds := [], alts := [], laidByText := true, laidKinds := [.data, .data], laidTests := true, laidLooks := .later }
def AlertIdsUptoCardSaid : Prop := Claim7.holds Tryd.pinned (.plain (OpenSpec.upto alertIdsSpec)) alertIdsUptoCard

/-- THE SECOND FORM's CARD OF 'lychgatelaw09.AlertTimes'. -/
def alertTimesUptoCard : Claim7 := { stood := { row := alertTimesUptoRow, standIns := [], harness := (true, "9f50b1e4b874070b1440fac6ef541339359be3f245a4c37c0caf700e986614a8"), looks := false }, kinds := [], alts := [], laidByText := true, laidKinds := [.data, .data], laidTests := true, laidLooks := .later }
def AlertTimesUptoCardSaid : Prop := Claim7.holds Tryd.pinned (.plain (OpenSpec.upto alertTimesSpec)) alertTimesUptoCard

/-- THE SECOND FORM's CARD OF 'lychgatelaw09.AlertNone'. -/
def alertNoneUptoCard : Claim7 := { stood := { row := alertNoneUptoRow, standIns := [], harness := (true, "9f50b1e4b874070b1440fac6ef541339359be3f245a4c37c0caf700e986614a8"), looks := false }, kinds := [], alts := [], laidByText := true, laidKinds := [.data, .data], laidTests := true, laidLooks := .later }
def AlertNoneUptoCardSaid : Prop := Claim7.holds Tryd.pinned (.plain (OpenSpec.upto alertNoneSpec)) alertNoneUptoCard
end Rows
end Go.Proofs.YtknhkmlihbgjpaaDoor
