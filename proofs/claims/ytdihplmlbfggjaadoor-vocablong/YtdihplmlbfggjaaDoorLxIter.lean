/-
  The contract of the function that place.lines hands back: it gives each line of a text, with how many bytes stand ahead of it, to whatever loop body, till one says that it wants no more.
-/
import Derived.RangeFuncNested
import Derived.RangeFuncBound
import Derived.RangeFuncCalls
import Derived.RangeFuncLeaves
import Derived.Shelf.Abstract
import Derived.WalkKit
import Derived.OwnWalkIn
import Derived.TacticsInMore
import Derived.LoopNIn
import Derived.LoopIn
import Derived.WalkSpells
import Derived.Lib.IndexBytes
import Derived.Test.YtdihplmlbfggjaaDoorLxMarks
import Derived.Test.YtdihplmlbfggjaaDoorShelf
namespace Go.Proofs.YtdihplmlbfggjaaDoor.Lx
open Go Go.RowKit Go.Shelf Plain

attribute [local go_sem] Oper.semAt_some

/-- What a round is handed. -/
abbrev encs (x : Int × ByteArray) : Array Value := #[.int .i64 x.1, .string x.2]
/-- A line as a round is handed it. -/
def conv (x : Nat × List UInt8) : Int × ByteArray := ((x.1 : Int), ⟨x.2.toArray⟩)
/-- All lines of a text. -/
def allLines (s : ByteArray) : List (Int × ByteArray) := (lns 0 [] s.data.toList).map conv

/-- What a round that goes on keeps: the box that holds the text. -/
def Keeps (B : Nat) (s : ByteArray) (W W' : World) : Prop := W.cell? ⟨B, 0, none⟩ = some (.string s) → W'.cell? ⟨B, 0, none⟩ = some (.string s)

theorem idx_none (s : ByteArray) (k : Nat) (w : World) (h : Lib.indexByte (s.data.toList.drop k) 10 < 0) :
    Calls Tryd.prog 85 #[.string (s.extract k s.size), .int .u8 10] w fun e w' => e = .returned (.int .i64 (-1)) ∧ w' = w := by
  refine (Tryd.strings_IndexByte _ _ _).mono ?_
  rintro e w' ⟨rfl, rfl⟩
  have hge := Lib.indexByte_ge (s.data.toList.drop k) 10
  have e1 : Lib.indexByte (s.extract k s.size).data.toList (10 : Int).toNat.toUInt8 = -1 := by
    rw [Lib.extract_to_end]
    have e2 : (10 : Int).toNat.toUInt8 = 10 := by decide
    rw [e2]; omega
  rw [e1]
  exact ⟨rfl, rfl⟩

theorem idx_some (s : ByteArray) (k : Nat) (w : World) (j : Nat) (h : Lib.indexByte (s.data.toList.drop k) 10 = (j : Int)) :
    Calls Tryd.prog 85 #[.string (s.extract k s.size), .int .u8 10] w fun e w' => e = .returned (.int .i64 j) ∧ w' = w := by
  refine (Tryd.strings_IndexByte _ _ _).mono ?_
  rintro e w' ⟨rfl, rfl⟩
  have e1 : Lib.indexByte (s.extract k s.size).data.toList (10 : Int).toNat.toUInt8 = j := by
    rw [Lib.extract_to_end]
    have e2 : (10 : Int).toNat.toUInt8 = 10 := by decide
    rw [e2, h]
  rw [e1]
  exact ⟨rfl, rfl⟩

theorem conv_last (s : ByteArray) (k : Nat) : conv (k, s.data.toList.drop k) = ((k : Int), s.extract k s.size) := by
  unfold conv
  rw [← Lib.extract_to_end]
theorem conv_mid (s : ByteArray) (k j : Nat) : conv (k, (s.data.toList.drop k).take j) = ((k : Int), s.extract k (k + j)) := by
  unfold conv
  have : (s.data.toList.drop k).take j = (s.extract k (k + j)).data.toList := by rw [Lib.extract_data]; congr 1; omega
  rw [this]

end Go.Proofs.YtdihplmlbfggjaaDoor.Lx
