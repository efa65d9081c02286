/-
  DERIVED. GIVEN WITH THE SEED: THE CARDS: each row of YtidiallphmocdaaDoorRows.lean that lists a variable, with what it lists TIED to the program's text (the seventh form; the later family's looks); each row that meets fmt, with fmt's text TOLD by the authors' own Lean function (tested against real Go, not proved from fmt's source: count such statements apart). THE CARD IS WHAT COUNTS. Prove the row's statement (the work); the ties are given (YtidiallphmocdaaDoorTie.lean); close each card by the builder's one call (the guide's Derived/Test/ToyasCard.lean, 'card_holds'). Laid BY PROGRAM, IN A SANDBOX (cutbox-door.mjs). By AI agents, Wed Nov 11 2026. No macro, syntax, notation, axiom, sorry.
-/
import Derived.Test.YtidiallphmocdaaDoorRows
import GoSem.ClaimSeven
namespace Go.Proofs.YtidiallphmocdaaDoor
namespace Rows

/-- THE TIED CARD OF 'lychgatelaw02.DigestOf'. -/
def digestOfCard : Claim7 := { stood := { row := digestOfRow, standIns := [], harness := (true, "8ff5d43437900fa66d52ecc7edf0fe80738873f891984829c3bb629d130c9056"), looks := false }, kinds := [], alts := [], laidByText := true, laidKinds := [.data, .data], laidTests := true, laidLooks := .later }
def DigestOfCardSaid : Prop := Claim7.holds Tryd.pinned (.plain (OpenSpec.ofChange digestOfSpec)) digestOfCard

/-- THE TIED CARD OF 'lychgatelaw02.DigestHex'. -/
def digestHexCard : Claim7 := { stood := { row := digestHexRow, standIns := [], harness := (true, "8ff5d43437900fa66d52ecc7edf0fe80738873f891984829c3bb629d130c9056"), looks := false }, kinds := [], alts := [], laidByText := true, laidKinds := [.data, .data], laidTests := true, laidLooks := .later }
def DigestHexCardSaid : Prop := Claim7.holds Tryd.pinned (.plain (OpenSpec.ofChange digestHexSpec)) digestHexCard

/-- THE TIED CARD OF 'lychgatelaw02.DigestPieces'. -/
def digestPiecesCard : Claim7 := { stood := { row := digestPiecesRow, standIns := [], harness := (true, "8ff5d43437900fa66d52ecc7edf0fe80738873f891984829c3bb629d130c9056"), looks := false }, kinds := [], alts := [], laidByText := true, laidKinds := [.data, .data], laidTests := true, laidLooks := .later }
def DigestPiecesCardSaid : Prop := Claim7.holds Tryd.pinned (.plain (OpenSpec.ofChange digestPiecesSpec)) digestPiecesCard

/-- THE TIED CARD OF 'lychgatelaw02.DigestShort'. -/
def digestShortCard : Claim7 := { stood := { row := digestShortRow, standIns := [], harness := (true, "8ff5d43437900fa66d52ecc7edf0fe80738873f891984829c3bb629d130c9056"), looks := false }, kinds := [], alts := [], laidByText := true, laidKinds := [.data, .data], laidTests := true, laidLooks := .later }
def DigestShortCardSaid : Prop := Claim7.holds Tryd.pinned (.plain (OpenSpec.ofChange digestShortSpec)) digestShortCard

/-- THE TIED CARD OF 'lychgatelaw02.DigestOnly'. -/
def digestOnlyCard : Claim7 := { stood := { row := digestOnlyRow, standIns := [], harness := (true, "8ff5d43437900fa66d52ecc7edf0fe80738873f891984829c3bb629d130c9056"), looks := false }, kinds := [], alts := [], laidByText := true, laidKinds := [.data, .data], laidTests := true, laidLooks := .later }
def DigestOnlyCardSaid : Prop := Claim7.holds Tryd.pinned (.plain (OpenSpec.ofChange digestOnlySpec)) digestOnlyCard

/-- THE TIED CARD OF 'lychgatelaw03.SealOf'. -/
def sealOfCard : Claim7 := { stood := { row := sealOfRow, standIns := [], harness := (true, "8ff5d43437900fa66d52ecc7edf0fe80738873f891984829c3bb629d130c9056"), looks := false }, kinds := [], alts := [], laidByText := true, laidKinds := [.data, .data], laidTests := true, laidLooks := .later }
def SealOfCardSaid : Prop := Claim7.holds Tryd.pinned (.plain (OpenSpec.ofChange sealOfSpec)) sealOfCard

/-- THE TIED CARD OF 'lychgatelaw03.SealFits'. -/
def sealFitsCard : Claim7 := { stood := { row := sealFitsRow, standIns := [], harness := (true, "8ff5d43437900fa66d52ecc7edf0fe80738873f891984829c3bb629d130c9056"), looks := false }, kinds := [], alts := [], laidByText := true, laidKinds := [.data, .data], laidTests := true, laidLooks := .later }
def SealFitsCardSaid : Prop := Claim7.holds Tryd.pinned (.plain (OpenSpec.ofChange sealFitsSpec)) sealFitsCard

/-- THE TIED CARD OF 'lychgatelaw03.SealKeys'. -/
def sealKeysCard : Claim7 := { stood := { row := sealKeysRow, standIns := [], harness := (true, "8ff5d43437900fa66d52ecc7edf0fe80738873f891984829c3bb629d130c9056"), looks := false }, kinds := [], alts := [], laidByText := true, laidKinds := [.data, .data], laidTests := true, laidLooks := .later }
def SealKeysCardSaid : Prop := Claim7.holds Tryd.pinned (.plain (OpenSpec.ofChange sealKeysSpec)) sealKeysCard

/-- THE TIED CARD OF 'lychgatelaw03.SealChain'. -/
def sealChainCard : Claim7 := { stood := { row := sealChainRow, standIns := [], harness := (true, "8ff5d43437900fa66d52ecc7edf0fe80738873f891984829c3bb629d130c9056"), looks := false }, kinds := [], alts := [], laidByText := true, laidKinds := [.data, .data], laidTests := true, laidLooks := .later }
def SealChainCardSaid : Prop := Claim7.holds Tryd.pinned (.plain (OpenSpec.ofChange sealChainSpec)) sealChainCard

/-- THE TIED CARD OF 'lychgatelaw03.SealParts'. -/
def sealPartsCard : Claim7 := { stood := { row := sealPartsRow, standIns := [], harness := (true, "8ff5d43437900fa66d52ecc7edf0fe80738873f891984829c3bb629d130c9056"), looks := false }, kinds := [], alts := [], laidByText := true, laidKinds := [.data, .data], laidTests := true, laidLooks := .later }
def SealPartsCardSaid : Prop := Claim7.holds Tryd.pinned (.plain (OpenSpec.ofChange sealPartsSpec)) sealPartsCard

/-- THE TIED CARD OF 'lychgatelaw03.SealTwice'. -/
def sealTwiceCard : Claim7 := { stood := { row := sealTwiceRow, standIns := [], harness := (true, "8ff5d43437900fa66d52ecc7edf0fe80738873f891984829c3bb629d130c9056"), looks := false }, kinds := [], alts := [], laidByText := true, laidKinds := [.data, .data], laidTests := true, laidLooks := .later }
def SealTwiceCardSaid : Prop := Claim7.holds Tryd.pinned (.plain (OpenSpec.ofChange sealTwiceSpec)) sealTwiceCard

/-- THE SECOND FORM's CARD OF 'lychgatelaw02.DigestOf'. -/
def digestOfUptoCard : Claim7 := { stood := { row := digestOfUptoRow, standIns := [], harness := (true, "8ff5d43437900fa66d52ecc7edf0fe80738873f891984829c3bb629d130c9056"), looks := false }, kinds := [], alts := [], laidByText := true, laidKinds := [.data, .data], laidTests := true, laidLooks := .later }
def DigestOfUptoCardSaid : Prop := Claim7.holds Tryd.pinned (.plain (OpenSpec.upto digestOfSpec)) digestOfUptoCard

/-- THE SECOND FORM's CARD OF 'lychgatelaw02.DigestHex'. -/
def digestHexUptoCard : Claim7 := { stood := { row := digestHexUptoRow, standIns := [], harness := (true, "8ff5d43437900fa66d52ecc7edf0fe80738873f891984829c3bb629d130c9056"), looks := false }, kinds := [], alts := [], laidByText := true, laidKinds := [.data, .data], laidTests := true, laidLooks := .later }
def DigestHexUptoCardSaid : Prop := Claim7.holds Tryd.pinned (.plain (OpenSpec.upto digestHexSpec)) digestHexUptoCard

/-- THE SECOND FORM's CARD OF 'lychgatelaw02.DigestPieces'. -/
def digestPiecesUptoCard : Claim7 := { stood := { row := digestPiecesUptoRow, standIns := [], harness := (true, "8ff5d43437900fa66d52ecc7edf0fe80738873f891984829c3bb629d130c9056"), looks := false }, kinds := [], alts := [], laidByText := true, laidKinds := [.data, .data], laidTests := true, laidLooks := .later }
def DigestPiecesUptoCardSaid : Prop := Claim7.holds Tryd.pinned (.plain (OpenSpec.upto digestPiecesSpec)) digestPiecesUptoCard

/-- THE SECOND FORM's CARD OF 'lychgatelaw02.DigestShort'. -/
def digestShortUptoCard : Claim7 := { stood := { row := digestShortUptoRow, standIns := [], harness := (true, "8ff5d43437900fa66d52ecc7edf0fe80738873f891984829c3bb629d130c9056"), looks := false }, kinds := [], alts := [], laidByText := true, laidKinds := [.data, .data], laidTests := true, laidLooks := .later }
def DigestShortUptoCardSaid : Prop := Claim7.holds Tryd.pinned (.plain (OpenSpec.upto digestShortSpec)) digestShortUptoCard

/-- THE SECOND FORM's CARD OF 'lychgatelaw02.DigestOnly'. -/
def digestOnlyUptoCard : Claim7 := { stood := { row := digestOnlyUptoRow, standIns := [], harness := (true, "8ff5d43437900fa66d52ecc7edf0fe80738873f891984829c3bb629d130c9056"), looks := false }, kinds := [], alts := [], laidByText := true, laidKinds := [.data, .data], laidTests := true, laidLooks := .later }
def DigestOnlyUptoCardSaid : Prop := Claim7.holds Tryd.pinned (.plain (OpenSpec.upto digestOnlySpec)) digestOnlyUptoCard

/-- THE SECOND FORM's CARD OF 'lychgatelaw03.SealOf'. -/
def sealOfUptoCard : Claim7 := { stood := { row := sealOfUptoRow, standIns := [], harness := (true, "8ff5d43437900fa66d52ecc7edf0fe80738873f891984829c3bb629d130c9056"), looks := false }, kinds := [], alts := [], laidByText := true, laidKinds := [.data, .data], laidTests := true, laidLooks := .later }
def SealOfUptoCardSaid : Prop := Claim7.holds Tryd.pinned (.plain (OpenSpec.upto sealOfSpec)) sealOfUptoCard

/-- THE SECOND FORM's CARD OF 'lychgatelaw03.SealFits'. -/
def sealFitsUptoCard : Claim7 := { stood := { row := sealFitsUptoRow, standIns := [], harness := (true, "8ff5d43437900fa66d52ecc7edf0fe80738873f891984829c3bb629d130c9056"), looks := false }, kinds := [], alts := [], laidByText := true, laidKinds := [.data, .data], laidTests := true, laidLooks := .later }
def SealFitsUptoCardSaid : Prop := Claim7.holds Tryd.pinned (.plain (OpenSpec.upto sealFitsSpec)) sealFitsUptoCard

/-- THE SECOND FORM's CARD OF 'lychgatelaw03.SealKeys'. -/
def sealKeysUptoCard : Claim7 := { stood := { row := sealKeysUptoRow, standIns := [], harness := (true, "8ff5d43437900fa66d52ecc7edf0fe80738873f891984829c3bb629d130c9056"), looks := false }, kinds := [], alts := [], laidByText := true, laidKinds := [.data, .data], laidTests := true, laidLooks := .later }
def SealKeysUptoCardSaid : Prop := Claim7.holds Tryd.pinned (.plain (OpenSpec.upto sealKeysSpec)) sealKeysUptoCard

/-- THE SECOND FORM's CARD OF 'lychgatelaw03.SealChain'. -/
def sealChainUptoCard : Claim7 := { stood := { row := sealChainUptoRow, standIns := [], harness := (true, "8ff5d43437900fa66d52ecc7edf0fe80738873f891984829c3bb629d130c9056"), looks := false }, kinds := [], alts := [], laidByText := true, laidKinds := [.data, .data], laidTests := true, laidLooks := .later }
def SealChainUptoCardSaid : Prop := Claim7.holds Tryd.pinned (.plain (OpenSpec.upto sealChainSpec)) sealChainUptoCard

/-- THE SECOND FORM's CARD OF 'lychgatelaw03.SealParts'. -/
def sealPartsUptoCard : Claim7 := { stood := { row := sealPartsUptoRow, standIns := [], harness := (true, "8ff5d43437900fa66d52ecc7edf0fe80738873f891984829c3bb629d130c9056"), looks := false }, kinds := [], alts := [], laidByText := true, laidKinds := [.data, .data], laidTests := true, laidLooks := .later }
def SealPartsUptoCardSaid : Prop := Claim7.holds Tryd.pinned (.plain (OpenSpec.upto sealPartsSpec)) sealPartsUptoCard

/-- THE SECOND FORM's CARD OF 'lychgatelaw03.SealTwice'. -/
def sealTwiceUptoCard : Claim7 := { stood := { row := sealTwiceUptoRow, standIns := [], harness := (true, "8ff5d43437900fa66d52ecc7edf0fe80738873f891984829c3bb629d130c9056"), looks := false }, kinds := [], alts := [], laidByText := true, laidKinds := [.data, .data], laidTests := true, laidLooks := .later }
def SealTwiceUptoCardSaid : Prop := Claim7.holds Tryd.pinned (.plain (OpenSpec.upto sealTwiceSpec)) sealTwiceUptoCard
end Rows
end Go.Proofs.YtidiallphmocdaaDoor
