/-
  The contract of the laws' 'known': the chapter's examples hold.
-/
import Derived.Test.YtainjagbcbjnbaaSame
namespace Go.Proofs.Ytainjagbcbjnbaa
open Go Go.RowKit Go.Shelf Plain Lex

def exA : ByteArray := ⟨#[102, 32, 120, 32, 45, 62, 32, 49, 50, 32, 35, 32, 121]⟩
def exB : ByteArray := ⟨#[97, 45, 98]⟩

theorem exA_run : run exA false 0 = ([⟨1, exA.extract 0 1, 0⟩, ⟨1, exA.extract 2 3, 2⟩, ⟨3, exA.extract 4 6, 4⟩, ⟨2, exA.extract 7 9, 7⟩], none) := by
  have a0 : aft exA false 0 = 0 := by decide +kernel
  have f0 : fr exA 0 = (1, 1) := by decide +kernel
  have a1 : aft exA false 1 = 2 := by decide +kernel
  have f1 : fr exA 2 = (1, 1) := by decide +kernel
  have a2 : aft exA false 3 = 4 := by decide +kernel
  have f2 : fr exA 4 = (3, 2) := by decide +kernel
  have a3 : aft exA false 6 = 7 := by decide +kernel
  have f3 : fr exA 7 = (2, 2) := by decide +kernel
  have a4 : aft exA false 9 = 13 := by decide +kernel
  have f4 : fr exA 13 = (4, 0) := by decide +kernel
  rw [run_tok exA false 0 (by decide) (by rw [a0, f0]; rfl) (by rw [a0, f0]; decide), a0, f0]
  simp only [Nat.zero_add]
  rw [run_tok exA false 1 (by decide) (by rw [a1, f1]; rfl) (by rw [a1, f1]; decide), a1, f1]
  simp only [Nat.reduceAdd]
  rw [run_tok exA false 3 (by decide) (by rw [a2, f2]; rfl) (by rw [a2, f2]; decide), a2, f2]
  simp only [Nat.reduceAdd]
  rw [run_tok exA false 6 (by decide) (by rw [a3, f3]; rfl) (by rw [a3, f3]; decide), a3, f3]
  simp only [Nat.reduceAdd]
  rw [run_end exA false 9 (by decide) (by rw [a4, f4])]
  simp only [tokAt, f0, f1, f2, f3]

theorem exB_run : run exB false 0 = ([⟨1, exB.extract 0 1, 0⟩], some ⟨3, 1, ⟨#[45]⟩⟩) := by
  have a0 : aft exB false 0 = 0 := by decide +kernel
  have f0 : fr exB 0 = (1, 1) := by decide +kernel
  have a1 : aft exB false 1 = 1 := by decide +kernel
  have f1 : fr exB 1 = (0, 1) := by decide +kernel
  rw [run_tok exB false 0 (by decide) (by rw [a0, f0]; rfl) (by rw [a0, f0]; decide), a0, f0]
  simp only [Nat.zero_add]
  rw [run_bad exB false 1 (by decide) (by rw [a1, f1]; decide), a1]
  simp only [tokAt, badAt, f0, f1]
  have hw : badWord 0 (exB.extract 1 (1 + 1)) = ⟨#[45]⟩ := by decide +kernel
  rw [hw]
  rfl

theorem exB_mark : markAt exB 1 = (1, 2) := by decide +kernel

theorem knownA (w : World) : Calls Try.prog 8 #[.string ⟨#[102, 32, 120, 32, 45, 62, 32, 49, 50, 32, 35, 32, 121]⟩] w fun e w' => ∃ g cap, e = .returned (.tuple #[.slice (some ⟨g, 0, none⟩) 4 cap, .agg #[.int .i64 0, .int .i64 0, .int .i64 0, .string ⟨#[]⟩]]) ∧ g < w'.heap.size ∧ 4 ≤ cap ∧
    w'.cell? ⟨g, 7, none⟩ = some (.string ⟨#[45, 62]⟩) ∧ w'.cell? ⟨g, 9, none⟩ = some (.int .i64 2) ∧ w'.cell? ⟨g, 11, none⟩ = some (.int .i64 7) ∧ Below w.heap.size w w' := by
  refine (Split_calls exA (by decide) w).mono ?_
  rintro e w' ⟨v, rfl, hrow, hb⟩
  rw [exA_run] at hrow ⊢
  obtain ⟨a, cap, rfl, hcap, hat⟩ := hrow.shape
  obtain ⟨g, rfl, _, hg, c0, c1, c2⟩ := hat 2 ⟨3, exA.extract 4 6, 4⟩ rfl
  obtain ⟨g', hgg, _, _, d0, d1, d2⟩ := hat 3 ⟨2, exA.extract 7 9, 7⟩ rfl
  obtain rfl : g = g' := by simpa using hgg
  exact ⟨g, cap, rfl, hg, hcap, c1, d0, d2, hb⟩

theorem knownB (w : World) : Calls Try.prog 8 #[.string ⟨#[97, 45, 98]⟩] w fun e w' => ∃ v, e = .returned (.tuple #[v, .agg #[.int .i64 3, .int .i64 1, .int .i64 2, .string ⟨#[45]⟩]]) ∧ Below w.heap.size w w' := by
  refine (Split_calls exB (by decide) w).mono ?_
  rintro e w' ⟨v, rfl, hrow, hb⟩
  rw [exB_run]
  refine ⟨v, ?_, hb⟩
  simp only [outF, exB_mark]
  rfl

set_option maxRecDepth 100000 in
set_option maxHeartbeats 1600000 in
theorem known_calls (w : World) : Calls Try.prog 10 #[] w fun e w' => e = .returned (.bool true) ∧ Below w.heap.size w w' := by
  obtain ⟨N, hN⟩ : ∃ N, w.heap.size = N := ⟨_, rfl⟩
  have HN : Hid (w.heap.size = N) := hN
  clear hN
  go_enter Try.func10, Try.ntmps10
  go_wp2_with fail
  refine (knownA _).mono ?_
  rintro e w1 ⟨g, cap, rfl, hg, hcap, c1, c2, c3, hb1⟩
  rw [HN.out] at hb1
  obtain ⟨M, hM⟩ : ∃ M, w1.heap.size = M := ⟨_, rfl⟩
  go_wp2_with fail
  generalize hW : w1.alloc (.cells #[.int .i64 0, .int .i64 0, .int .i64 0, .string ⟨#[]⟩] 27) = W
  have b0 : Blk W M 27 #[.int .i64 0, .int .i64 0, .int .i64 0, .string ⟨#[]⟩] := by rw [← hW]; exact Blk.new' w1 M 27 _ hM
  have hbW : Below w1.heap.size w1 W := by rw [← hW]; exact (Below.refl _ _).alloc (Nat.le_refl _) _
  have hNM : N ≤ w1.heap.size := by have := hb1.size; rw [HN.out] at this; exact this
  have hb2 : Below N w W := hb1.trans (hbW.mono hNM)
  have hgM : g < M := by omega
  have d1 := (hbW.cell (p := ⟨g, 7, none⟩) hg).trans c1
  have d2 := (hbW.cell (p := ⟨g, 9, none⟩) hg).trans c2
  have d3 := (hbW.cell (p := ⟨g, 11, none⟩) hg).trans c3
  have hgW : g < W.heap.size := Nat.lt_of_lt_of_le hg hbW.size
  clear hW hbW c1 c2 c3 hb1 hg
  refine (knownB _).mono ?_
  rintro e w2 ⟨v, rfl, hb3⟩
  have e0 := b0.below hb3 b0.lt
  have f1 := (hb3.cell (p := ⟨g, 7, none⟩) hgW).trans d1
  have f2 := (hb3.cell (p := ⟨g, 9, none⟩) hgW).trans d2
  have f3 := (hb3.cell (p := ⟨g, 11, none⟩) hgW).trans d3
  have hb4 : Below N w w2 := hb2.trans (hb3.mono (by have := b0.lt; omega))
  have hg2 : g < w2.heap.size := Nat.lt_of_lt_of_le hgW hb3.size
  clear hb3 hb2 d1 d2 d3 b0 hgW
  obtain ⟨K, hK⟩ : ∃ K, w2.heap.size = K := ⟨_, rfl⟩
  have hMK : M < K := by rw [← hK]; exact e0.lt
  have q0 : ∀ o, (w2.alloc o).cell? ⟨M, 0, none⟩ = some (.int .i64 0) := fun o => (e0.alloc o).cell 0
  have q1 : ∀ o, (w2.alloc o).cell? ⟨g, 7, none⟩ = some (.string ⟨#[45, 62]⟩) := fun o => (World.cell?_of_block (w := w2) (Below.heap_alloc w2 o g hg2)).trans f1
  have q2 : ∀ o, (w2.alloc o).cell? ⟨g, 9, none⟩ = some (.int .i64 2) := fun o => (World.cell?_of_block (w := w2) (Below.heap_alloc w2 o g hg2)).trans f2
  have q3 : ∀ o, (w2.alloc o).cell? ⟨g, 11, none⟩ = some (.int .i64 7) := fun o => (World.cell?_of_block (w := w2) (Below.heap_alloc w2 o g hg2)).trans f3
  have hN2 : N ≤ w2.heap.size := by omega
  go_wp2
  go_ret
  exact ⟨rfl, by rw [HN.out]; exact hb4.alloc hN2 _⟩

end Go.Proofs.Ytainjagbcbjnbaa
