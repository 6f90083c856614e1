/-
  DERIVED. GIVEN WITH THE SEED: THE CARDS: each row of YtjmpacenlmoldaaDoorRows.lean that lists a variable, with what it lists TIED to the program's text (the seventh form; the later family's looks); each row that meets fmt, with fmt's text TOLD by the authors' own Lean function (tested against real Go, not proved from fmt's source: count such statements apart). THE CARD IS WHAT COUNTS. Prove the row's statement (the work); the ties are given (YtjmpacenlmoldaaDoorTie.lean); close each card by the builder's one call (the guide's Derived/Test/ToyasCard.lean, 'card_holds'). Laid BY PROGRAM, IN A SANDBOX (cutbox-door.mjs). By AI agents, Wed Nov 11 2026. No macro, syntax, notation, axiom, sorry.
-/
import Derived.Test.YtjmpacenlmoldaaDoorRows
import GoSem.ClaimSeven
namespace Go.Proofs.YtjmpacenlmoldaaDoor
namespace Rows

/-- THE TIED CARD OF 'filigreelaw01.PlaceMarks'. -/
def placeMarksCard : Claim7 := { stood := { row := placeMarksRow, standIns := [], harness := (true, "6179d1263051ab25b9e2c6c0cc19a702389cfa34eac69246fd5b1edfbcca4de9"), looks := false }, kinds := [], alts := [], laidByText := true, laidKinds := [.data, .data, .data, .data], laidTests := true, laidLooks := .later }
def PlaceMarksCardSaid : Prop := Claim7.holds Tryd.pinned (.plain (OpenSpec.ofChange placeMarksSpec)) placeMarksCard

/-- THE TIED CARD OF 'filigreelaw01.PlaceLines'. -/
def placeLinesCard : Claim7 := { stood := { row := placeLinesRow, standIns := [], harness := (true, "6179d1263051ab25b9e2c6c0cc19a702389cfa34eac69246fd5b1edfbcca4de9"), looks := false }, kinds := [], alts := [], laidByText := true, laidKinds := [.data, .data, .data, .data], laidTests := true, laidLooks := .later }
def PlaceLinesCardSaid : Prop := Claim7.holds Tryd.pinned (.plain (OpenSpec.ofChange placeLinesSpec)) placeLinesCard

/-- THE TIED CARD OF 'filigreelaw01.PlaceOrders'. -/
def placeOrdersCard : Claim7 := { stood := { row := placeOrdersRow, standIns := [], harness := (true, "6179d1263051ab25b9e2c6c0cc19a702389cfa34eac69246fd5b1edfbcca4de9"), looks := false }, kinds := [], alts := [], laidByText := true, laidKinds := [.data, .data, .data, .data], laidTests := true, laidLooks := .later }
def PlaceOrdersCardSaid : Prop := Claim7.holds Tryd.pinned (.plain (OpenSpec.ofChange placeOrdersSpec)) placeOrdersCard

/-- THE TIED CARD OF 'filigreelaw01.PlaceFirst'. -/
def placeFirstCard : Claim7 := { stood := { row := placeFirstRow, standIns := [], harness := (true, "6179d1263051ab25b9e2c6c0cc19a702389cfa34eac69246fd5b1edfbcca4de9"), looks := false }, kinds := [], alts := [], laidByText := true, laidKinds := [.data, .data, .data, .data], laidTests := true, laidLooks := .later }
def PlaceFirstCardSaid : Prop := Claim7.holds Tryd.pinned (.plain (OpenSpec.ofChange placeFirstSpec)) placeFirstCard

/-- THE TIED CARD OF 'filigreelaw01.PlaceTexts'. -/
def placeTextsCard : Claim7 := { stood := { row := placeTextsRow, standIns := [], harness := (true, "6179d1263051ab25b9e2c6c0cc19a702389cfa34eac69246fd5b1edfbcca4de9"), looks := false }, kinds := [], alts := [], laidByText := true, laidKinds := [.data, .data, .data, .data], laidTests := true, laidLooks := .later }
def PlaceTextsCardSaid : Prop := Claim7.holds Tryd.pinned (.plain (OpenSpec.ofChange placeTextsSpec)) placeTextsCard

/-- THE SECOND FORM's CARD OF 'filigreelaw01.PlaceMarks'. -/
def placeMarksUptoCard : Claim7 := { stood := { row := placeMarksUptoRow, standIns := [], harness := (true, "6179d1263051ab25b9e2c6c0cc19a702389cfa34eac69246fd5b1edfbcca4de9"), looks := false }, kinds := [], alts := [], laidByText := true, laidKinds := [.data, .data, .data, .data], laidTests := true, laidLooks := .later }
def PlaceMarksUptoCardSaid : Prop := Claim7.holds Tryd.pinned (.plain (OpenSpec.upto placeMarksSpec)) placeMarksUptoCard

/-- THE SECOND FORM's CARD OF 'filigreelaw01.PlaceLines'. -/
def placeLinesUptoCard : Claim7 := { stood := { row := placeLinesUptoRow, standIns := [], harness := (true, "6179d1263051ab25b9e2c6c0cc19a702389cfa34eac69246fd5b1edfbcca4de9"), looks := false }, kinds := [], alts := [], laidByText := true, laidKinds := [.data, .data, .data, .data], laidTests := true, laidLooks := .later }
def PlaceLinesUptoCardSaid : Prop := Claim7.holds Tryd.pinned (.plain (OpenSpec.upto placeLinesSpec)) placeLinesUptoCard

/-- THE SECOND FORM's CARD OF 'filigreelaw01.PlaceOrders'. -/
def placeOrdersUptoCard : Claim7 := { stood := { row := placeOrdersUptoRow, standIns := [], harness := (true, "6179d1263051ab25b9e2c6c0cc19a702389cfa34eac69246fd5b1edfbcca4de9"), looks := false }, kinds := [], alts := [], laidByText := true, laidKinds := [.data, .data, .data, .data], laidTests := true, laidLooks := .later }
def PlaceOrdersUptoCardSaid : Prop := Claim7.holds Tryd.pinned (.plain (OpenSpec.upto placeOrdersSpec)) placeOrdersUptoCard

/-- THE SECOND FORM's CARD OF 'filigreelaw01.PlaceFirst'. -/
def placeFirstUptoCard : Claim7 := { stood := { row := placeFirstUptoRow, standIns := [], harness := (true, "6179d1263051ab25b9e2c6c0cc19a702389cfa34eac69246fd5b1edfbcca4de9"), looks := false }, kinds := [], alts := [], laidByText := true, laidKinds := [.data, .data, .data, .data], laidTests := true, laidLooks := .later }
def PlaceFirstUptoCardSaid : Prop := Claim7.holds Tryd.pinned (.plain (OpenSpec.upto placeFirstSpec)) placeFirstUptoCard

/-- THE SECOND FORM's CARD OF 'filigreelaw01.PlaceTexts'. -/
def placeTextsUptoCard : Claim7 := { stood := { row := placeTextsUptoRow, standIns := [], harness := (true, "6179d1263051ab25b9e2c6c0cc19a702389cfa34eac69246fd5b1edfbcca4de9"), looks := false }, kinds := [], alts := [], laidByText := true, laidKinds := [.data, .data, .data, .data], laidTests := true, laidLooks := .later }
def PlaceTextsUptoCardSaid : Prop := Claim7.holds Tryd.pinned (.plain (OpenSpec.upto placeTextsSpec)) placeTextsUptoCard
end Rows
end Go.Proofs.YtjmpacenlmoldaaDoor
