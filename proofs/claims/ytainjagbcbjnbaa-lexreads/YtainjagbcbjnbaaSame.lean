/-
  The contract of the laws' 'same' (slices of the same tokens) and of Split of a text that is too long.
-/
import Derived.Test.YtainjagbcbjnbaaSplit
import Derived.Deep.RegionHeld3
namespace Go.Proofs.Ytainjagbcbjnbaa
open Go Go.RowKit Go.Shelf Plain Lex

set_option maxRecDepth 100000 in
set_option maxHeartbeats 1600000 in
theorem SplitLong_calls (s : ByteArray) (hs : 20000 < s.size) (w : World) :
    Calls Try.prog 8 #[.string s] w fun e w' => e = .returned (.tuple #[.slice none 0 0, .agg #[.int .i64 2, .int .i64 1, .int .i64 1, .string ⟨#[]⟩]]) ∧ Below w.heap.size w w' := by
  obtain ⟨N, hN⟩ : ∃ N, w.heap.size = N := ⟨_, rfl⟩
  have HN : Hid (w.heap.size = N) := hN
  have hsz : decide ((20000 : Int) < (s.size : Int)) = true := by simp; omega
  go_enter Try.func8, Try.ntmps8
  go_wp2_with fail
  generalize hW : w.alloc (.cells #[.int .i64 0, .int .i64 0, .int .i64 0, .string ⟨#[]⟩] 27) = W
  have b0 : Blk W N 27 #[.int .i64 0, .int .i64 0, .int .i64 0, .string ⟨#[]⟩] := by rw [← hW]; exact Blk.new' w N 27 _ hN
  have hb : Below N w W := by rw [← hW]; exact (Below.refl N w).alloc (by simp [hN]) _
  clear hW hN
  refine (start_calls _).mono ?_
  rintro e w3 ⟨rfl, hb4⟩
  have i1 := b0.below hb4 b0.lt
  have hb5 : Below N w w3 := hb.trans (hb4.mono (Nat.le_of_lt b0.lt))
  have q0 : w3.cell? ⟨N, 0, none⟩ = some (.int .i64 0) := i1.cell 0
  have q1 : w3.cell? ⟨N, 1, none⟩ = some (.int .i64 0) := i1.cell 1
  have q2 : w3.cell? ⟨N, 2, none⟩ = some (.int .i64 0) := i1.cell 2
  have q3 : w3.cell? ⟨N, 3, none⟩ = some (.string ⟨#[]⟩) := i1.cell 3
  have fz : ∀ j, w3.frozen? ⟨N, j, none⟩ = false := fun j => i1.frozen j
  go_wp2
  have g := (((i1.set 0 (.int .i64 2)).set 1 (.int .i64 1)).set 2 (.int .i64 1)).set 3 (.string ⟨#[]⟩)
  have hbl5 := bset (i := 3) (bset (i := 2) (bset (i := 1) (bset (i := 0) hb5 (Nat.le_refl N) (.int .i64 2)) (Nat.le_refl N) (.int .i64 1)) (Nat.le_refl N) (.int .i64 1)) (Nat.le_refl N) (.string ⟨#[]⟩)
  generalize (((w3.setCell ⟨N, 0, none⟩ (.int .i64 2)).setCell ⟨N, 1, none⟩ (.int .i64 1)).setCell ⟨N, 2, none⟩ (.int .i64 1)).setCell ⟨N, 3, none⟩ (.string ⟨#[]⟩) = W4 at *
  have x0 : W4.cell? ⟨N, 0, none⟩ = some (.int .i64 2) := g.cell 0
  have x1 : W4.cell? ⟨N, 1, none⟩ = some (.int .i64 1) := g.cell 1
  have x2 : W4.cell? ⟨N, 2, none⟩ = some (.int .i64 1) := g.cell 2
  have x3 : W4.cell? ⟨N, 3, none⟩ = some (.string ⟨#[]⟩) := g.cell 3
  exact bodyPost_ret (v := .tuple #[.slice none 0 0, .agg #[.int .i64 2, .int .i64 1, .int .i64 1, .string ⟨#[]⟩]]) (by simp [results, Try.results8, go_sem, x0, x1, x2, x3]) rfl ⟨rfl, by rw [HN.out]; exact hbl5⟩

theorem keep3 {w w' : World} {g i j l : Nat} {x y z : Value} (hb : Below w.drew.heap.size w.drew w') (hg : g < w.heap.size) (h : w.cell? ⟨g, i, none⟩ = some x ∧ w.cell? ⟨g, j, none⟩ = some y ∧ w.cell? ⟨g, l, none⟩ = some z) :
    w'.cell? ⟨g, i, none⟩ = some x ∧ w'.cell? ⟨g, j, none⟩ = some y ∧ w'.cell? ⟨g, l, none⟩ = some z :=
  ⟨(hb.cell (p := ⟨g, i, none⟩) hg).trans h.1, (hb.cell (p := ⟨g, j, none⟩) hg).trans h.2.1, (hb.cell (p := ⟨g, l, none⟩) hg).trans h.2.2⟩

set_option maxRecDepth 100000 in
set_option maxHeartbeats 1600000 in
theorem same_calls (ts : List Tok) (a b : Value) (B C : Nat) (hl : ts.length ≤ 20000) (w : World) (ha : TRow w B 46 a ts) (hb : TRow w C 59 b ts) :
    Calls Try.prog 11 #[a, b] w fun e w' => e = .returned (.bool true) ∧ Below w.heap.size w w' := by
  obtain ⟨pa, ca, rfl, hca, hA⟩ := ha.shape
  obtain ⟨pb, cb, rfl, hcb, hB⟩ := hb.shape
  have HA : Hid _ := hA
  have HB : Hid _ := hB
  clear hA hB ha hb
  obtain ⟨N, hN⟩ : ∃ N, w.heap.size = N := ⟨_, rfl⟩
  have HN : Hid (w.heap.size = N) := hN
  rw [hN] at HA HB ⊢
  go_enter Try.func11, Try.ntmps11
  go_wp2
  go_loopw [5] (fun i wr => ∃ k : Nat, k ≤ ts.length ∧ i = .int .i64 k ∧ Below N w wr)
    (fun i _ => ts.length - (intOf i).toNat)
  case atStart => exact ⟨0, Nat.zero_le _, rfl, Below.refl _ _⟩
  case round =>
    obtain ⟨k, hk, rfl, hbl⟩ := hrel
    by_cases hlt : k < ts.length
    · obtain ⟨t, ht⟩ : ∃ t, ts[k]? = some t := ⟨_, List.getElem?_eq_getElem hlt⟩
      obtain ⟨g, rfl, _, hg, a0, a1, a2⟩ := HA.out k t ht
      obtain ⟨h, rfl, _, hh, b0, b1, b2⟩ := HB.out k t ht
      have a0' := (hbl.cell (p := ⟨g, k * 3, none⟩) hg).trans a0
      have a1' := (hbl.cell (p := ⟨g, k * 3 + 1, none⟩) hg).trans a1
      have a2' := (hbl.cell (p := ⟨g, k * 3 + 2, none⟩) hg).trans a2
      have b0' := (hbl.cell (p := ⟨h, k * 3, none⟩) hh).trans b0
      have b1' := (hbl.cell (p := ⟨h, k * 3 + 1, none⟩) hh).trans b1
      have b2' := (hbl.cell (p := ⟨h, k * 3 + 2, none⟩) hh).trans b2
      clear a0 a1 a2 b0 b1 b2 ht
      obtain ⟨kd, tx, ps⟩ := t
      simp only at a0' a1' a2' b0' b1' b2'
      have hg' : g < wr.heap.size := by have := hbl.size; omega
      have hh' : h < wr.heap.size := by have := hbl.size; omega
      have hNs : N ≤ wr.heap.size := by have := hbl.size; omega
      go_wp2_with fail
      go_region_held3 (fun v => (v.cell? ⟨g, k * 3, none⟩ = some (.int .i64 kd) ∧ v.cell? ⟨g, k * 3 + 1, none⟩ = some (.string tx) ∧ v.cell? ⟨g, k * 3 + 2, none⟩ = some (.int .i64 ps)) ∧ v.cell? ⟨h, k * 3, none⟩ = some (.int .i64 kd) ∧ v.cell? ⟨h, k * 3 + 1, none⟩ = some (.string tx) ∧ v.cell? ⟨h, k * 3 + 2, none⟩ = some (.int .i64 ps))
        (first | go_keep | exact ⟨keep3 hb1 hg' ⟨a0', a1', a2'⟩, keep3 hb1 hh' ⟨b0', b1', b2'⟩⟩)
        (first | (go_at_call 19; refine (of_calls kd tx ps _).mono ?_; rintro e w1 ⟨rfl, hb1⟩))
      go_wp2
      have hb2 : Below N w w1 := (hbl.drew).trans (hb1.mono hNs)
      exact ⟨⟨k + 1, by omega, by go_num, hb2⟩, by simp [intOf]; omega⟩
    · go_wp2
      go_ret
      exact ⟨rfl, hbl⟩

end Go.Proofs.Ytainjagbcbjnbaa
