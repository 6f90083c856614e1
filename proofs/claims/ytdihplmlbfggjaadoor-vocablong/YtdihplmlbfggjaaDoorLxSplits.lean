/-
  The walk of the law LexSplits: whatever the text, it answers true.
-/
import Derived.Test.YtdihplmlbfggjaaDoorLxRefSplit
import Derived.Test.YtdihplmlbfggjaaDoorLxKnown
import Derived.Lib.QuietBelow
import Derived.Shelf.RegionOpenPlain
namespace Go.Proofs.YtdihplmlbfggjaaDoor.Lx
open Go Go.RowKit Go.Shelf Go.Sort Plain Lex

theorem outF_shape (s : ByteArray) (r : Option Bad) : ∃ (c l k : Int) (wd : ByteArray), outF s r = #[.int .i64 c, .int .i64 l, .int .i64 k, .string wd] := by
  cases r with
  | none => exact ⟨0, 0, 0, ⟨#[]⟩, rfl⟩
  | some b => exact ⟨_, _, _, _, rfl⟩

/-- There are no more tokens than bytes. -/
theorem run_len (s : ByteArray) : ∀ (n k : Nat) (rem : Bool), s.size - k ≤ n → k ≤ s.size → (run s rem k).1.length ≤ s.size - k := by
  intro n
  induction n with
  | zero =>
    intro k rem h1 h2
    obtain rfl : k = s.size := by omega
    rw [run_last]; simp
  | succ n ih =>
    intro k rem h1 h2
    obtain ⟨g1, g2⟩ := aft_le s rem k h2
    obtain ⟨f1, f2, _, _⟩ := fr_at s _ g2
    rw [run_eq s rem k h2]
    split
    · simp
    · split
      · simp
      · rename_i h4
        have := f2 h4
        have := ih (aft s rem k + (fr s (aft s rem k)).2) false (by omega) f1
        simp only [List.length_cons]
        omega
theorem outT_len (s : ByteArray) : (outT (run s false 0)).length ≤ s.size := by
  have := run_len s s.size 0 false (by omega) (Nat.zero_le _)
  unfold outT
  split
  · omega
  · simp

/-- Two regions' walks end so: what both Splits tell is the same. -/
def cut15 (s : ByteArray) : ByteArray := s.extract 0 (min (s.size : Int) 1500).toNat
theorem cut15_size (s : ByteArray) : (cut15 s).size ≤ 1500 := by
  unfold cut15; rw [ByteArray.size_extract]; omega

end Go.Proofs.YtdihplmlbfggjaaDoor.Lx
