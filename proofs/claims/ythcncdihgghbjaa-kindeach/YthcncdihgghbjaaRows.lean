/-
  NARROWER THAN 'FOR EVERY INPUT', by the rows' own cells (each row's printed sentence says how): KindParts: loops · KindOrders: loops · KindMakes: loops · KindTexts: loops · KindEach: loops.
  DERIVED. THE GIVEN ROWS OF THIS SEAT. 5 by the template 'for every input the law returns true; each argument reads behind the call as it read before'; 0 by the template 'total and deterministic' (their statements: YthcncdihgghbjaaTotals.lean).
  GIVEN WITH THE SEED: the statements are not yours to turn. If you find one false, say at which input.
  Laid BY PROGRAM, IN A SANDBOX (cutbox-rows.mjs): the forced cells as the released guide's own fill.sh prints them over the translation aab16a58b010c9a3… (all of the seat's roots in one cut). By AI agents, Wed Nov 11 2026. No macro, syntax, notation, axiom, sorry.
-/
import Derived.Test.YthcncdihgghbjaaChecked
import GoSem.Claim
import GoSem.ClaimJoined
import GoSem.ClaimMapViews
import Derived.JoinedTies
import Derived.KernelRfl
namespace Go.Proofs.Ythcncdihgghbjaa
/- THE CELL 'sum', in the pinned program and in every row, IS THE sha256 OF THE DUMP (.gsa) THAT YthcncdihgghbjaaProg.lean LOADS. Nothing in Lean hashes anything: it is a label: what it is worth is what the hold of that sum in a sandbox is worth. -/
noncomputable def Try.pinned : Pinned := { name := "ythcncdihgghbjaa", sum := "aab16a58b010c9a3cba9cf18643a08caf581373b7f3e883e07e5d42eccb1cd94", checked := Try.checked }
namespace Rows
def none {H : Type} : Left H := { results := [], args := [] }

/-- 'filigreelaw04.KindParts': WHATEVER THE INPUT: true; the input reads as it did. -/
def kindPartsSpec : ChangeSpec := { name := "kindParts", fn := fun _ => fun
  | [d1, d2] => { results := [.lit (.bool true)], args := [d1, d2] }
  | _ => none }
def kindPartsRow : OpenClaim := { program := "ythcncdihgghbjaa", sum := "aab16a58b010c9a3cba9cf18643a08caf581373b7f3e883e07e5d42eccb1cd94", func := "filigree/filigreelaw04.KindParts", spec := "kindParts", inPlace := ["internal/abi.NoEscape"], unfollowed := true, recurses := true, loops := true, apart := false }
def KindPartsSaid : Prop := kindPartsRow.holds Try.pinned (OpenSpec.ofChange kindPartsSpec)

/-- ITS FALSE NEIGHBOUR: 'it returns false'. Refute it at one input. -/
def kindPartsWrong : ChangeSpec := { name := "kindParts", fn := fun _ => fun
  | [d1, d2] => { results := [.lit (.bool false)], args := [d1, d2] }
  | _ => none }
def KindPartsWrongFalsely : Prop := kindPartsRow.holds Try.pinned (OpenSpec.ofChange kindPartsWrong)

/-- 'filigreelaw04.KindOrders': WHATEVER THE INPUT: true; the input reads as it did. -/
def kindOrdersSpec : ChangeSpec := { name := "kindOrders", fn := fun _ => fun
  | [d1, d2, d3] => { results := [.lit (.bool true)], args := [d1, d2, d3] }
  | _ => none }
def kindOrdersRow : OpenClaim := { program := "ythcncdihgghbjaa", sum := "aab16a58b010c9a3cba9cf18643a08caf581373b7f3e883e07e5d42eccb1cd94", func := "filigree/filigreelaw04.KindOrders", spec := "kindOrders", inPlace := ["internal/abi.NoEscape"], unfollowed := true, recurses := true, loops := true, apart := false }
def KindOrdersSaid : Prop := kindOrdersRow.holds Try.pinned (OpenSpec.ofChange kindOrdersSpec)

/-- ITS FALSE NEIGHBOUR: 'it returns false'. Refute it at one input. -/
def kindOrdersWrong : ChangeSpec := { name := "kindOrders", fn := fun _ => fun
  | [d1, d2, d3] => { results := [.lit (.bool false)], args := [d1, d2, d3] }
  | _ => none }
def KindOrdersWrongFalsely : Prop := kindOrdersRow.holds Try.pinned (OpenSpec.ofChange kindOrdersWrong)

/-- 'filigreelaw04.KindMakes': WHATEVER THE INPUT: true; the input reads as it did. -/
def kindMakesSpec : ChangeSpec := { name := "kindMakes", fn := fun _ => fun
  | [d1, d2, d3] => { results := [.lit (.bool true)], args := [d1, d2, d3] }
  | _ => none }
def kindMakesRow : OpenClaim := { program := "ythcncdihgghbjaa", sum := "aab16a58b010c9a3cba9cf18643a08caf581373b7f3e883e07e5d42eccb1cd94", func := "filigree/filigreelaw04.KindMakes", spec := "kindMakes", inPlace := ["internal/abi.NoEscape"], unfollowed := true, recurses := true, loops := true, apart := false }
def KindMakesSaid : Prop := kindMakesRow.holds Try.pinned (OpenSpec.ofChange kindMakesSpec)

/-- ITS FALSE NEIGHBOUR: 'it returns false'. Refute it at one input. -/
def kindMakesWrong : ChangeSpec := { name := "kindMakes", fn := fun _ => fun
  | [d1, d2, d3] => { results := [.lit (.bool false)], args := [d1, d2, d3] }
  | _ => none }
def KindMakesWrongFalsely : Prop := kindMakesRow.holds Try.pinned (OpenSpec.ofChange kindMakesWrong)

/-- 'filigreelaw04.KindTexts': WHATEVER THE INPUT: true; the input reads as it did. -/
def kindTextsSpec : ChangeSpec := { name := "kindTexts", fn := fun _ => fun
  | [d1, d2] => { results := [.lit (.bool true)], args := [d1, d2] }
  | _ => none }
def kindTextsRow : OpenClaim := { program := "ythcncdihgghbjaa", sum := "aab16a58b010c9a3cba9cf18643a08caf581373b7f3e883e07e5d42eccb1cd94", func := "filigree/filigreelaw04.KindTexts", spec := "kindTexts", inPlace := ["internal/abi.NoEscape"], unfollowed := true, recurses := true, loops := true, apart := false }
def KindTextsSaid : Prop := kindTextsRow.holds Try.pinned (OpenSpec.ofChange kindTextsSpec)

/-- ITS FALSE NEIGHBOUR: 'it returns false'. Refute it at one input. -/
def kindTextsWrong : ChangeSpec := { name := "kindTexts", fn := fun _ => fun
  | [d1, d2] => { results := [.lit (.bool false)], args := [d1, d2] }
  | _ => none }
def KindTextsWrongFalsely : Prop := kindTextsRow.holds Try.pinned (OpenSpec.ofChange kindTextsWrong)

/-- 'filigreelaw04.KindEach': WHATEVER THE INPUT: true; the input reads as it did. -/
def kindEachSpec : ChangeSpec := { name := "kindEach", fn := fun _ => fun
  | [d1, d2] => { results := [.lit (.bool true)], args := [d1, d2] }
  | _ => none }
def kindEachRow : OpenClaim := { program := "ythcncdihgghbjaa", sum := "aab16a58b010c9a3cba9cf18643a08caf581373b7f3e883e07e5d42eccb1cd94", func := "filigree/filigreelaw04.KindEach", spec := "kindEach", inPlace := ["internal/abi.NoEscape"], unfollowed := true, recurses := true, loops := true, apart := false }
def KindEachSaid : Prop := kindEachRow.holds Try.pinned (OpenSpec.ofChange kindEachSpec)

/-- ITS FALSE NEIGHBOUR: 'it returns false'. Refute it at one input. -/
def kindEachWrong : ChangeSpec := { name := "kindEach", fn := fun _ => fun
  | [d1, d2] => { results := [.lit (.bool false)], args := [d1, d2] }
  | _ => none }
def KindEachWrongFalsely : Prop := kindEachRow.holds Try.pinned (OpenSpec.ofChange kindEachWrong)

/- THE SECOND FORM. 'bulk': how many values and letters a reading holds, each counted each time it is reached (what is shared counts as often as it is met; a slice's spare places count too). A statement '..UptoSaid' is the law's where the arguments, and the package variables that the reading takes, are together of bulk at most 1048576: NARROWER than '..Said'. Prove '..Said' where nothing that the law and all that it calls make is longer than what came in: it says more and counts as full. Else prove '..UptoSaid'. A law counts once. -/
mutual
def uptoBulk {H : Type} : DataW H → Nat
  | .lit (.string bytes) => bytes.length + 1
  | .lit _ => 1
  | .nil => 1
  | .ptr d => uptoBulk d + 1
  | .slice elems spare => uptoBulkAll elems + uptoBulkAll spare + 1
  | .agg parts => uptoBulkAll parts + 1
  | .iface _ d => uptoBulk d + 1
  | .map entries => uptoBulkEntries entries + 1
  | .held _ => 1
def uptoBulkAll {H : Type} : List (DataW H) → Nat
  | [] => 0
  | d :: r => uptoBulk d + uptoBulkAll r
def uptoBulkEntries {H : Type} : List (Lit × DataW H) → Nat
  | [] => 0
  | x :: r => uptoBulkEntry x + uptoBulkEntries r
def uptoBulkEntry {H : Type} : Lit × DataW H → Nat
  | (.string bytes, d) => bytes.length + uptoBulk d + 1
  | (_, d) => uptoBulk d + 1
 end
def uptoSmall : (H : Type) → List (DataW H) → Bool := fun _ ds => decide (uptoBulkAll ds ≤ 1048576)
def OpenSpec.upto (s : _root_.Go.ChangeSpec) : _root_.Go.OpenSpec := { _root_.Go.OpenSpec.ofChange s with cond := some uptoSmall }

/-- 'filigreelaw04.KindParts', WHERE WHAT IT READS IS OF BULK AT MOST 1048576: true; the input reads as it did. -/
def kindPartsUptoRow : OpenClaim := { program := "ythcncdihgghbjaa", sum := "aab16a58b010c9a3cba9cf18643a08caf581373b7f3e883e07e5d42eccb1cd94", func := "filigree/filigreelaw04.KindParts", spec := "kindParts", inPlace := ["internal/abi.NoEscape"], unfollowed := true, recurses := true, loops := true, apart := false, narrowed := true }
def KindPartsUptoSaid : Prop := kindPartsUptoRow.holds Try.pinned (OpenSpec.upto kindPartsSpec)

/-- 'filigreelaw04.KindOrders', WHERE WHAT IT READS IS OF BULK AT MOST 1048576: true; the input reads as it did. -/
def kindOrdersUptoRow : OpenClaim := { program := "ythcncdihgghbjaa", sum := "aab16a58b010c9a3cba9cf18643a08caf581373b7f3e883e07e5d42eccb1cd94", func := "filigree/filigreelaw04.KindOrders", spec := "kindOrders", inPlace := ["internal/abi.NoEscape"], unfollowed := true, recurses := true, loops := true, apart := false, narrowed := true }
def KindOrdersUptoSaid : Prop := kindOrdersUptoRow.holds Try.pinned (OpenSpec.upto kindOrdersSpec)

/-- 'filigreelaw04.KindMakes', WHERE WHAT IT READS IS OF BULK AT MOST 1048576: true; the input reads as it did. -/
def kindMakesUptoRow : OpenClaim := { program := "ythcncdihgghbjaa", sum := "aab16a58b010c9a3cba9cf18643a08caf581373b7f3e883e07e5d42eccb1cd94", func := "filigree/filigreelaw04.KindMakes", spec := "kindMakes", inPlace := ["internal/abi.NoEscape"], unfollowed := true, recurses := true, loops := true, apart := false, narrowed := true }
def KindMakesUptoSaid : Prop := kindMakesUptoRow.holds Try.pinned (OpenSpec.upto kindMakesSpec)

/-- 'filigreelaw04.KindTexts', WHERE WHAT IT READS IS OF BULK AT MOST 1048576: true; the input reads as it did. -/
def kindTextsUptoRow : OpenClaim := { program := "ythcncdihgghbjaa", sum := "aab16a58b010c9a3cba9cf18643a08caf581373b7f3e883e07e5d42eccb1cd94", func := "filigree/filigreelaw04.KindTexts", spec := "kindTexts", inPlace := ["internal/abi.NoEscape"], unfollowed := true, recurses := true, loops := true, apart := false, narrowed := true }
def KindTextsUptoSaid : Prop := kindTextsUptoRow.holds Try.pinned (OpenSpec.upto kindTextsSpec)

/-- 'filigreelaw04.KindEach', WHERE WHAT IT READS IS OF BULK AT MOST 1048576: true; the input reads as it did. -/
def kindEachUptoRow : OpenClaim := { program := "ythcncdihgghbjaa", sum := "aab16a58b010c9a3cba9cf18643a08caf581373b7f3e883e07e5d42eccb1cd94", func := "filigree/filigreelaw04.KindEach", spec := "kindEach", inPlace := ["internal/abi.NoEscape"], unfollowed := true, recurses := true, loops := true, apart := false, narrowed := true }
def KindEachUptoSaid : Prop := kindEachUptoRow.holds Try.pinned (OpenSpec.upto kindEachSpec)

end Rows
end Go.Proofs.Ythcncdihgghbjaa
