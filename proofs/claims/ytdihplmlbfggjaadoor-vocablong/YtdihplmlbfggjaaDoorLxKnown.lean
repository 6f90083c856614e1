/-
  The contract of the laws' 'known': the chapter's examples hold.
-/
import Derived.Test.YtdihplmlbfggjaaDoorLxSame
namespace Go.Proofs.YtdihplmlbfggjaaDoor.Lx
open Go Go.RowKit Go.Shelf Plain Lex

def exA : ByteArray := ⟨#[102, 32, 120, 32, 45, 62, 32, 49, 50, 32, 35, 32, 121]⟩
def exB : ByteArray := ⟨#[97, 45, 98]⟩

theorem exA_run : run exA false 0 = ([⟨1, exA.extract 0 1, 0⟩, ⟨1, exA.extract 2 3, 2⟩, ⟨3, exA.extract 4 6, 4⟩, ⟨2, exA.extract 7 9, 7⟩], none) := by
  have a0 : aft exA false 0 = 0 := by decide +kernel
  have f0 : fr exA 0 = (1, 1) := by decide +kernel
  have a1 : aft exA false 1 = 2 := by decide +kernel
  have f1 : fr exA 2 = (1, 1) := by decide +kernel
  have a2 : aft exA false 3 = 4 := by decide +kernel
  have f2 : fr exA 4 = (3, 2) := by decide +kernel
  have a3 : aft exA false 6 = 7 := by decide +kernel
  have f3 : fr exA 7 = (2, 2) := by decide +kernel
  have a4 : aft exA false 9 = 13 := by decide +kernel
  have f4 : fr exA 13 = (4, 0) := by decide +kernel
  rw [run_tok exA false 0 (by decide) (by rw [a0, f0]; rfl) (by rw [a0, f0]; decide), a0, f0]
  simp only [Nat.zero_add]
  rw [run_tok exA false 1 (by decide) (by rw [a1, f1]; rfl) (by rw [a1, f1]; decide), a1, f1]
  simp only [Nat.reduceAdd]
  rw [run_tok exA false 3 (by decide) (by rw [a2, f2]; rfl) (by rw [a2, f2]; decide), a2, f2]
  simp only [Nat.reduceAdd]
  rw [run_tok exA false 6 (by decide) (by rw [a3, f3]; rfl) (by rw [a3, f3]; decide), a3, f3]
  simp only [Nat.reduceAdd]
  rw [run_end exA false 9 (by decide) (by rw [a4, f4])]
  simp only [tokAt, f0, f1, f2, f3]

theorem exB_run : run exB false 0 = ([⟨1, exB.extract 0 1, 0⟩], some ⟨3, 1, ⟨#[45]⟩⟩) := by
  have a0 : aft exB false 0 = 0 := by decide +kernel
  have f0 : fr exB 0 = (1, 1) := by decide +kernel
  have a1 : aft exB false 1 = 1 := by decide +kernel
  have f1 : fr exB 1 = (0, 1) := by decide +kernel
  rw [run_tok exB false 0 (by decide) (by rw [a0, f0]; rfl) (by rw [a0, f0]; decide), a0, f0]
  simp only [Nat.zero_add]
  rw [run_bad exB false 1 (by decide) (by rw [a1, f1]; decide), a1]
  simp only [tokAt, badAt, f0, f1]
  have hw : badWord 0 (exB.extract 1 (1 + 1)) = ⟨#[45]⟩ := by decide +kernel
  rw [hw]
  rfl

theorem exB_mark : markAt exB 1 = (1, 2) := by decide +kernel

end Go.Proofs.YtdihplmlbfggjaaDoor.Lx
