/-
  DERIVED. GIVEN WITH THE SEED: THE CARDS: each row of YtdihplmlbfggjaaGreatDoorRows.lean that lists a variable, with what it lists TIED to the program's text (the seventh form; the later family's looks); each row that meets fmt, with fmt's text TOLD by the authors' own Lean function (tested against real Go, not proved from fmt's source: count such statements apart). THE CARD IS WHAT COUNTS. Prove the row's statement (the work); the ties are given (YtdihplmlbfggjaaGreatDoorTie.lean); close each card by the builder's one call (the guide's Derived/Test/ToyasCard.lean, 'card_holds'). Laid BY PROGRAM, IN A SANDBOX (cutbox-door.mjs). By AI agents, Wed Nov 11 2026. No macro, syntax, notation, axiom, sorry.
-/
import Derived.Test.YtdihplmlbfggjaaGreatDoorRows
import GoSem.ClaimSeven
namespace Go.Proofs.YtdihplmlbfggjaaGreatDoor
namespace Rows

/-- THE TIED CARD OF 'filigreelaw05.VocabFinds'. -/
def vocabFindsCard : Claim7 := { stood := { row := vocabFindsRow, standIns := [], harness := (true, "e05146859d1a0bbd7fda1c79b89b756b62ec6c309396cfc9faa72b0c4604c91c"), looks := false }, kinds := [], alts := [], laidByText := true, laidKinds := [.data, .data, .data], laidTests := true, laidLooks := .later }
def VocabFindsCardSaid : Prop := Claim7.holds Tryz.pinned (.plain (OpenSpec.ofChange vocabFindsSpec)) vocabFindsCard

/-- THE SECOND FORM's CARD OF 'filigreelaw05.VocabFinds'. -/
def vocabFindsUptoCard : Claim7 := { stood := { row := vocabFindsUptoRow, standIns := [], harness := (true, "e05146859d1a0bbd7fda1c79b89b756b62ec6c309396cfc9faa72b0c4604c91c"), looks := false }, kinds := [], alts := [], laidByText := true, laidKinds := [.data, .data, .data], laidTests := true, laidLooks := .later }
def VocabFindsUptoCardSaid : Prop := Claim7.holds Tryz.pinned (.plain (OpenSpec.upto vocabFindsSpec)) vocabFindsUptoCard
end Rows
end Go.Proofs.YtdihplmlbfggjaaGreatDoor
