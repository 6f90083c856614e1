/-
  The walk of the law PlaceMarks: whatever the text, the number and the mark, it answers true.
-/
import Derived.Test.YtjmpacenlmoldaaDoorText
namespace Go.Proofs.YtjmpacenlmoldaaDoor
open Go Go.RowKit Go.Shelf Go.Sort Plain

set_option maxHeartbeats 1600000 in
theorem marks_ii (s t : ByteArray) (_hts : t.size ≤ 1000) (pos L C a b : Int) (k : Int)
    (h8 : Hid (∀ w, Calls Tryd.prog 8 #[.string s] w fun e w' => e = .returned (.string t) ∧ w' = w))
    (h9 : Hid (∀ w, Calls Tryd.prog 9 #[.string t, .int .i64 pos] w fun e w' => e = .returned (.tuple #[.agg #[.int .i64 a, .int .i64 b], .int .i64 0]) ∧ Below w.heap.size w w'))
    (h10 : Hid (∀ w, Calls Tryd.prog 10 #[.string t, .agg #[.int .i64 L, .int .i64 C]] w fun e w' => e = .returned (.tuple #[.int .i64 k, .int .i64 0]) ∧ Below w.heap.size w w'))
    (h12 : Hid (∀ w, Calls Tryd.prog 12 #[.string t, .agg #[.int .i64 L, .int .i64 C]] w fun e w' => e = .returned (.tuple #[.int .i64 k, .bool true]) ∧ Below w.heap.size w w'))
    (h10x : Hid (∀ w, Calls Tryd.prog 10 #[.string t, .agg #[.int .i64 a, .int .i64 b]] w fun e w' => e = .returned (.tuple #[.int .i64 pos, .int .i64 0]) ∧ Below w.heap.size w w'))
    (h15 : Hid (∀ w, Calls Tryd.prog 15 #[.string t, .int .i64 pos] w fun e w' => e = .returned (.agg #[.int .i64 a, .int .i64 b]) ∧ Below w.heap.size w w'))
    (hp0 : 0 ≤ pos) (hp1 : pos ≤ (t.size : Int)) (w : World) (hL : Laid w) :
    Calls Tryd.prog 3 #[.string s, .int .i64 pos, .agg #[.int .i64 L, .int .i64 C]] w fun r w' => r = .returned (.bool true) ∧ Below w.heap.size w w' := by
  obtain ⟨N, hN⟩ : ∃ N, w.heap.size = N := ⟨_, rfl⟩
  have HN : Hid (w.heap.size = N) := hN
  go_enter Tryd.func3, Tryd.ntmps3
  go_wp2_with (go_at_call 8; refine (h8.out _).mono ?_; rintro e w' ⟨rfl, rfl⟩)
  generalize hW : w.alloc (.cells #[.int .i64 L, .int .i64 C] 23) = W
  have m0 : Blk W N 23 #[.int .i64 L, .int .i64 C] := by rw [← hW]; exact Blk.new' w N 23 _ hN
  have B0 : Below N w W := by rw [← hW]; exact (Below.refl N w).alloc (by simp [hN]) _
  clear hW hN
  refine (h9.out _).mono ?_
  rintro e w1 ⟨rfl, hb1⟩
  have m1 := m0.below hb1 m0.lt
  have B1 : Below N w w1 := B0.trans (hb1.mono (Nat.le_of_lt m0.lt))
  have q0 : ∀ O, (w1.alloc O).cell? ⟨N, 0, none⟩ = some (.int .i64 L) := fun O => (m1.alloc O).cell 0
  have q1 : ∀ O, (w1.alloc O).cell? ⟨N, 1, none⟩ = some (.int .i64 C) := fun O => (m1.alloc O).cell 1
  go_wp2_with fail
  clear q0 q1
  obtain ⟨M, hM⟩ : ∃ M, w1.heap.size = M := ⟨_, rfl⟩
  rw [hM]
  have hNM : N < M := by rw [← hM]; exact m1.lt
  generalize hW : w1.alloc (.cells #[.int .i64 a, .int .i64 b] 25) = W2
  have x2 : Blk W2 M 25 #[.int .i64 a, .int .i64 b] := by rw [← hW]; exact Blk.new' w1 M 25 _ hM
  have m2 : Blk W2 N 23 #[.int .i64 L, .int .i64 C] := by rw [← hW]; exact m1.alloc _
  have B2 : Below N w W2 := by rw [← hW]; exact B1.alloc (by omega) _
  clear hW hM
  refine (to_calls L C _).mono ?_
  rintro e w3 ⟨rfl, hb3⟩
  have x3 := x2.below hb3 x2.lt
  have m3 := m2.below hb3 m2.lt
  have B3 : Below N w w3 := B2.trans (hb3.mono (Nat.le_of_lt m2.lt))
  go_wp2_with fail
  refine (h10.out _).mono ?_
  rintro e w4 ⟨rfl, hb4⟩
  have x4 := x3.below hb4 x3.lt
  have m4 := m3.below hb4 m3.lt
  have B4 : Below N w w4 := B3.trans (hb4.mono (Nat.le_of_lt m3.lt))
  have q0 : w4.cell? ⟨N, 0, none⟩ = some (.int .i64 L) := m4.cell 0
  have q1 : w4.cell? ⟨N, 1, none⟩ = some (.int .i64 C) := m4.cell 1
  go_wp2_with fail
  refine (h12.out _).mono ?_
  rintro e w5 ⟨rfl, hb5⟩
  have x5 := x4.below hb5 x4.lt
  have B5 : Below N w w5 := B4.trans (hb5.mono (Nat.le_of_lt m4.lt))
  have hN5 : N ≤ w5.heap.size := by have := x5.lt; omega
  go_wp2_with fail
  refine (known_calls _ (hL.below (by rw [HN.out]; exact B5))).mono ?_
  rintro e w6 ⟨rfl, hb6⟩
  have x6 := x5.below hb6 x5.lt
  have B6 : Below N w w6 := B5.trans (hb6.mono hN5)
  have hN6 : N ≤ w6.heap.size := by have := x6.lt; omega
  have r0 : w6.cell? ⟨M, 0, none⟩ = some (.int .i64 a) := x6.cell 0
  have r1 : w6.cell? ⟨M, 1, none⟩ = some (.int .i64 b) := x6.cell 1
  go_wp2_with fail
  refine (h10x.out _).mono ?_
  rintro e w7 ⟨rfl, hb7⟩
  have x7 := x6.below hb7 x6.lt
  have B7 : Below N w w7 := B6.trans (hb7.mono hN6)
  have hN7 : N ≤ w7.heap.size := by have := x7.lt; omega
  have s0 : w7.cell? ⟨M, 0, none⟩ = some (.int .i64 a) := x7.cell 0
  have s1 : w7.cell? ⟨M, 1, none⟩ = some (.int .i64 b) := x7.cell 1
  go_wp2_with fail
  refine (of_calls a b _).mono ?_
  rintro e w8 ⟨rfl, hb8⟩
  have B8 : Below N w w8 := B7.trans (hb8.mono hN7)
  have hN8 : N ≤ w8.heap.size := by have := (x7.below hb8 x7.lt).lt; omega
  go_wp2_with fail
  refine (h15.out _).mono ?_
  rintro e w9 ⟨rfl, hb9⟩
  have B9 : Below N w w9 := B8.trans (hb9.mono hN8)
  go_wp2
  go_ret
  exact ⟨rfl, by rw [HN.out]; exact B9⟩

set_option maxHeartbeats 1600000 in
theorem marks_io (s t : ByteArray) (_hts : t.size ≤ 1000) (pos L C a b : Int)
    (h8 : Hid (∀ w, Calls Tryd.prog 8 #[.string s] w fun e w' => e = .returned (.string t) ∧ w' = w))
    (h9 : Hid (∀ w, Calls Tryd.prog 9 #[.string t, .int .i64 pos] w fun e w' => e = .returned (.tuple #[.agg #[.int .i64 a, .int .i64 b], .int .i64 0]) ∧ Below w.heap.size w w'))
    (h10 : Hid (∀ w, Calls Tryd.prog 10 #[.string t, .agg #[.int .i64 L, .int .i64 C]] w fun e w' => e = .returned (.tuple #[.int .i64 0, .int .i64 10]) ∧ Below w.heap.size w w'))
    (h12 : Hid (∀ w, Calls Tryd.prog 12 #[.string t, .agg #[.int .i64 L, .int .i64 C]] w fun e w' => e = .returned (.tuple #[.int .i64 0, .bool false]) ∧ Below w.heap.size w w'))
    (h10x : Hid (∀ w, Calls Tryd.prog 10 #[.string t, .agg #[.int .i64 a, .int .i64 b]] w fun e w' => e = .returned (.tuple #[.int .i64 pos, .int .i64 0]) ∧ Below w.heap.size w w'))
    (h15 : Hid (∀ w, Calls Tryd.prog 15 #[.string t, .int .i64 pos] w fun e w' => e = .returned (.agg #[.int .i64 a, .int .i64 b]) ∧ Below w.heap.size w w'))
    (hp0 : 0 ≤ pos) (hp1 : pos ≤ (t.size : Int)) (w : World) (hL : Laid w) :
    Calls Tryd.prog 3 #[.string s, .int .i64 pos, .agg #[.int .i64 L, .int .i64 C]] w fun r w' => r = .returned (.bool true) ∧ Below w.heap.size w w' := by
  obtain ⟨N, hN⟩ : ∃ N, w.heap.size = N := ⟨_, rfl⟩
  have HN : Hid (w.heap.size = N) := hN
  go_enter Tryd.func3, Tryd.ntmps3
  go_wp2_with (go_at_call 8; refine (h8.out _).mono ?_; rintro e w' ⟨rfl, rfl⟩)
  generalize hW : w.alloc (.cells #[.int .i64 L, .int .i64 C] 23) = W
  have m0 : Blk W N 23 #[.int .i64 L, .int .i64 C] := by rw [← hW]; exact Blk.new' w N 23 _ hN
  have B0 : Below N w W := by rw [← hW]; exact (Below.refl N w).alloc (by simp [hN]) _
  clear hW hN
  refine (h9.out _).mono ?_
  rintro e w1 ⟨rfl, hb1⟩
  have m1 := m0.below hb1 m0.lt
  have B1 : Below N w w1 := B0.trans (hb1.mono (Nat.le_of_lt m0.lt))
  have q0 : ∀ O, (w1.alloc O).cell? ⟨N, 0, none⟩ = some (.int .i64 L) := fun O => (m1.alloc O).cell 0
  have q1 : ∀ O, (w1.alloc O).cell? ⟨N, 1, none⟩ = some (.int .i64 C) := fun O => (m1.alloc O).cell 1
  go_wp2_with fail
  clear q0 q1
  obtain ⟨M, hM⟩ : ∃ M, w1.heap.size = M := ⟨_, rfl⟩
  rw [hM]
  have hNM : N < M := by rw [← hM]; exact m1.lt
  generalize hW : w1.alloc (.cells #[.int .i64 a, .int .i64 b] 25) = W2
  have x2 : Blk W2 M 25 #[.int .i64 a, .int .i64 b] := by rw [← hW]; exact Blk.new' w1 M 25 _ hM
  have m2 : Blk W2 N 23 #[.int .i64 L, .int .i64 C] := by rw [← hW]; exact m1.alloc _
  have B2 : Below N w W2 := by rw [← hW]; exact B1.alloc (by omega) _
  clear hW hM
  refine (to_calls L C _).mono ?_
  rintro e w3 ⟨rfl, hb3⟩
  have x3 := x2.below hb3 x2.lt
  have m3 := m2.below hb3 m2.lt
  have B3 : Below N w w3 := B2.trans (hb3.mono (Nat.le_of_lt m2.lt))
  go_wp2_with fail
  refine (h10.out _).mono ?_
  rintro e w4 ⟨rfl, hb4⟩
  have x4 := x3.below hb4 x3.lt
  have m4 := m3.below hb4 m3.lt
  have B4 : Below N w w4 := B3.trans (hb4.mono (Nat.le_of_lt m3.lt))
  have q0 : w4.cell? ⟨N, 0, none⟩ = some (.int .i64 L) := m4.cell 0
  have q1 : w4.cell? ⟨N, 1, none⟩ = some (.int .i64 C) := m4.cell 1
  go_wp2_with fail
  refine (h12.out _).mono ?_
  rintro e w5 ⟨rfl, hb5⟩
  have x5 := x4.below hb5 x4.lt
  have B5 : Below N w w5 := B4.trans (hb5.mono (Nat.le_of_lt m4.lt))
  have hN5 : N ≤ w5.heap.size := by have := x5.lt; omega
  go_wp2_with fail
  refine (known_calls _ (hL.below (by rw [HN.out]; exact B5))).mono ?_
  rintro e w6 ⟨rfl, hb6⟩
  have x6 := x5.below hb6 x5.lt
  have B6 : Below N w w6 := B5.trans (hb6.mono hN5)
  have hN6 : N ≤ w6.heap.size := by have := x6.lt; omega
  have r0 : w6.cell? ⟨M, 0, none⟩ = some (.int .i64 a) := x6.cell 0
  have r1 : w6.cell? ⟨M, 1, none⟩ = some (.int .i64 b) := x6.cell 1
  go_wp2_with fail
  refine (h10x.out _).mono ?_
  rintro e w7 ⟨rfl, hb7⟩
  have x7 := x6.below hb7 x6.lt
  have B7 : Below N w w7 := B6.trans (hb7.mono hN6)
  have hN7 : N ≤ w7.heap.size := by have := x7.lt; omega
  have s0 : w7.cell? ⟨M, 0, none⟩ = some (.int .i64 a) := x7.cell 0
  have s1 : w7.cell? ⟨M, 1, none⟩ = some (.int .i64 b) := x7.cell 1
  go_wp2_with fail
  refine (of_calls a b _).mono ?_
  rintro e w8 ⟨rfl, hb8⟩
  have B8 : Below N w w8 := B7.trans (hb8.mono hN7)
  have hN8 : N ≤ w8.heap.size := by have := (x7.below hb8 x7.lt).lt; omega
  go_wp2_with fail
  refine (h15.out _).mono ?_
  rintro e w9 ⟨rfl, hb9⟩
  have B9 : Below N w w9 := B8.trans (hb9.mono hN8)
  go_wp2
  go_ret
  exact ⟨rfl, by rw [HN.out]; exact B9⟩

set_option maxHeartbeats 1600000 in
theorem marks_oi (s t : ByteArray) (_hts : t.size ≤ 1000) (pos L C a b : Int) (k : Int)
    (h8 : Hid (∀ w, Calls Tryd.prog 8 #[.string s] w fun e w' => e = .returned (.string t) ∧ w' = w))
    (h9 : Hid (∀ w, Calls Tryd.prog 9 #[.string t, .int .i64 pos] w fun e w' => e = .returned (.tuple #[.agg #[.int .i64 a, .int .i64 b], .int .i64 1]) ∧ Below w.heap.size w w'))
    (h10 : Hid (∀ w, Calls Tryd.prog 10 #[.string t, .agg #[.int .i64 L, .int .i64 C]] w fun e w' => e = .returned (.tuple #[.int .i64 k, .int .i64 0]) ∧ Below w.heap.size w w'))
    (h12 : Hid (∀ w, Calls Tryd.prog 12 #[.string t, .agg #[.int .i64 L, .int .i64 C]] w fun e w' => e = .returned (.tuple #[.int .i64 k, .bool true]) ∧ Below w.heap.size w w'))
    (ha : a = 0) (hb : b = 0) (hp : pos < 0 ∨ (t.size : Int) < pos) (w : World) (hL : Laid w) :
    Calls Tryd.prog 3 #[.string s, .int .i64 pos, .agg #[.int .i64 L, .int .i64 C]] w fun r w' => r = .returned (.bool true) ∧ Below w.heap.size w w' := by
  subst ha hb
  obtain ⟨N, hN⟩ : ∃ N, w.heap.size = N := ⟨_, rfl⟩
  have HN : Hid (w.heap.size = N) := hN
  go_enter Tryd.func3, Tryd.ntmps3
  go_wp2_with (go_at_call 8; refine (h8.out _).mono ?_; rintro e w' ⟨rfl, rfl⟩)
  generalize hW : w.alloc (.cells #[.int .i64 L, .int .i64 C] 23) = W
  have m0 : Blk W N 23 #[.int .i64 L, .int .i64 C] := by rw [← hW]; exact Blk.new' w N 23 _ hN
  have B0 : Below N w W := by rw [← hW]; exact (Below.refl N w).alloc (by simp [hN]) _
  clear hW hN
  refine (h9.out _).mono ?_
  rintro e w1 ⟨rfl, hb1⟩
  have m1 := m0.below hb1 m0.lt
  have B1 : Below N w w1 := B0.trans (hb1.mono (Nat.le_of_lt m0.lt))
  have q0 : ∀ O, (w1.alloc O).cell? ⟨N, 0, none⟩ = some (.int .i64 L) := fun O => (m1.alloc O).cell 0
  have q1 : ∀ O, (w1.alloc O).cell? ⟨N, 1, none⟩ = some (.int .i64 C) := fun O => (m1.alloc O).cell 1
  go_wp2_with fail
  clear q0 q1
  obtain ⟨M, hM⟩ : ∃ M, w1.heap.size = M := ⟨_, rfl⟩
  rw [hM]
  have hNM : N < M := by rw [← hM]; exact m1.lt
  generalize hW : w1.alloc (.cells #[.int .i64 0, .int .i64 0] 25) = W2
  have x2 : Blk W2 M 25 #[.int .i64 0, .int .i64 0] := by rw [← hW]; exact Blk.new' w1 M 25 _ hM
  have m2 : Blk W2 N 23 #[.int .i64 L, .int .i64 C] := by rw [← hW]; exact m1.alloc _
  have B2 : Below N w W2 := by rw [← hW]; exact B1.alloc (by omega) _
  clear hW hM
  refine (to_calls L C _).mono ?_
  rintro e w3 ⟨rfl, hb3⟩
  have x3 := x2.below hb3 x2.lt
  have m3 := m2.below hb3 m2.lt
  have B3 : Below N w w3 := B2.trans (hb3.mono (Nat.le_of_lt m2.lt))
  go_wp2_with fail
  refine (h10.out _).mono ?_
  rintro e w4 ⟨rfl, hb4⟩
  have x4 := x3.below hb4 x3.lt
  have m4 := m3.below hb4 m3.lt
  have B4 : Below N w w4 := B3.trans (hb4.mono (Nat.le_of_lt m3.lt))
  have q0 : w4.cell? ⟨N, 0, none⟩ = some (.int .i64 L) := m4.cell 0
  have q1 : w4.cell? ⟨N, 1, none⟩ = some (.int .i64 C) := m4.cell 1
  go_wp2_with fail
  refine (h12.out _).mono ?_
  rintro e w5 ⟨rfl, hb5⟩
  have x5 := x4.below hb5 x4.lt
  have B5 : Below N w w5 := B4.trans (hb5.mono (Nat.le_of_lt m4.lt))
  have hN5 : N ≤ w5.heap.size := by have := x5.lt; omega
  go_wp2_with fail
  refine (known_calls _ (hL.below (by rw [HN.out]; exact B5))).mono ?_
  rintro e w6 ⟨rfl, hb6⟩
  have x6 := x5.below hb6 x5.lt
  have B6 : Below N w w6 := B5.trans (hb6.mono hN5)
  have hN6 : N ≤ w6.heap.size := by have := x6.lt; omega
  have r0 : w6.cell? ⟨M, 0, none⟩ = some (.int .i64 0) := x6.cell 0
  have r1 : w6.cell? ⟨M, 1, none⟩ = some (.int .i64 0) := x6.cell 1
  by_cases hp0 : pos < 0
  · go_wp2
    go_ret
    exact ⟨rfl, by rw [HN.out]; exact B6⟩
  · have hp1 : (t.size : Int) < pos := by omega
    clear hp
    go_wp2
    go_ret
    exact ⟨rfl, by rw [HN.out]; exact B6⟩

set_option maxHeartbeats 1600000 in
theorem marks_oo (s t : ByteArray) (_hts : t.size ≤ 1000) (pos L C a b : Int)
    (h8 : Hid (∀ w, Calls Tryd.prog 8 #[.string s] w fun e w' => e = .returned (.string t) ∧ w' = w))
    (h9 : Hid (∀ w, Calls Tryd.prog 9 #[.string t, .int .i64 pos] w fun e w' => e = .returned (.tuple #[.agg #[.int .i64 a, .int .i64 b], .int .i64 1]) ∧ Below w.heap.size w w'))
    (h10 : Hid (∀ w, Calls Tryd.prog 10 #[.string t, .agg #[.int .i64 L, .int .i64 C]] w fun e w' => e = .returned (.tuple #[.int .i64 0, .int .i64 10]) ∧ Below w.heap.size w w'))
    (h12 : Hid (∀ w, Calls Tryd.prog 12 #[.string t, .agg #[.int .i64 L, .int .i64 C]] w fun e w' => e = .returned (.tuple #[.int .i64 0, .bool false]) ∧ Below w.heap.size w w'))
    (ha : a = 0) (hb : b = 0) (hp : pos < 0 ∨ (t.size : Int) < pos) (w : World) (hL : Laid w) :
    Calls Tryd.prog 3 #[.string s, .int .i64 pos, .agg #[.int .i64 L, .int .i64 C]] w fun r w' => r = .returned (.bool true) ∧ Below w.heap.size w w' := by
  subst ha hb
  obtain ⟨N, hN⟩ : ∃ N, w.heap.size = N := ⟨_, rfl⟩
  have HN : Hid (w.heap.size = N) := hN
  go_enter Tryd.func3, Tryd.ntmps3
  go_wp2_with (go_at_call 8; refine (h8.out _).mono ?_; rintro e w' ⟨rfl, rfl⟩)
  generalize hW : w.alloc (.cells #[.int .i64 L, .int .i64 C] 23) = W
  have m0 : Blk W N 23 #[.int .i64 L, .int .i64 C] := by rw [← hW]; exact Blk.new' w N 23 _ hN
  have B0 : Below N w W := by rw [← hW]; exact (Below.refl N w).alloc (by simp [hN]) _
  clear hW hN
  refine (h9.out _).mono ?_
  rintro e w1 ⟨rfl, hb1⟩
  have m1 := m0.below hb1 m0.lt
  have B1 : Below N w w1 := B0.trans (hb1.mono (Nat.le_of_lt m0.lt))
  have q0 : ∀ O, (w1.alloc O).cell? ⟨N, 0, none⟩ = some (.int .i64 L) := fun O => (m1.alloc O).cell 0
  have q1 : ∀ O, (w1.alloc O).cell? ⟨N, 1, none⟩ = some (.int .i64 C) := fun O => (m1.alloc O).cell 1
  go_wp2_with fail
  clear q0 q1
  obtain ⟨M, hM⟩ : ∃ M, w1.heap.size = M := ⟨_, rfl⟩
  rw [hM]
  have hNM : N < M := by rw [← hM]; exact m1.lt
  generalize hW : w1.alloc (.cells #[.int .i64 0, .int .i64 0] 25) = W2
  have x2 : Blk W2 M 25 #[.int .i64 0, .int .i64 0] := by rw [← hW]; exact Blk.new' w1 M 25 _ hM
  have m2 : Blk W2 N 23 #[.int .i64 L, .int .i64 C] := by rw [← hW]; exact m1.alloc _
  have B2 : Below N w W2 := by rw [← hW]; exact B1.alloc (by omega) _
  clear hW hM
  refine (to_calls L C _).mono ?_
  rintro e w3 ⟨rfl, hb3⟩
  have x3 := x2.below hb3 x2.lt
  have m3 := m2.below hb3 m2.lt
  have B3 : Below N w w3 := B2.trans (hb3.mono (Nat.le_of_lt m2.lt))
  go_wp2_with fail
  refine (h10.out _).mono ?_
  rintro e w4 ⟨rfl, hb4⟩
  have x4 := x3.below hb4 x3.lt
  have m4 := m3.below hb4 m3.lt
  have B4 : Below N w w4 := B3.trans (hb4.mono (Nat.le_of_lt m3.lt))
  have q0 : w4.cell? ⟨N, 0, none⟩ = some (.int .i64 L) := m4.cell 0
  have q1 : w4.cell? ⟨N, 1, none⟩ = some (.int .i64 C) := m4.cell 1
  go_wp2_with fail
  refine (h12.out _).mono ?_
  rintro e w5 ⟨rfl, hb5⟩
  have x5 := x4.below hb5 x4.lt
  have B5 : Below N w w5 := B4.trans (hb5.mono (Nat.le_of_lt m4.lt))
  have hN5 : N ≤ w5.heap.size := by have := x5.lt; omega
  go_wp2_with fail
  refine (known_calls _ (hL.below (by rw [HN.out]; exact B5))).mono ?_
  rintro e w6 ⟨rfl, hb6⟩
  have x6 := x5.below hb6 x5.lt
  have B6 : Below N w w6 := B5.trans (hb6.mono hN5)
  have hN6 : N ≤ w6.heap.size := by have := x6.lt; omega
  have r0 : w6.cell? ⟨M, 0, none⟩ = some (.int .i64 0) := x6.cell 0
  have r1 : w6.cell? ⟨M, 1, none⟩ = some (.int .i64 0) := x6.cell 1
  by_cases hp0 : pos < 0
  · go_wp2
    go_ret
    exact ⟨rfl, by rw [HN.out]; exact B6⟩
  · have hp1 : (t.size : Int) < pos := by omega
    clear hp
    go_wp2
    go_ret
    exact ⟨rfl, by rw [HN.out]; exact B6⟩

set_option maxHeartbeats 400000 in
theorem PlaceMarks_calls (s : ByteArray) (hs : s.size ≤ 4611686018427387904) (pos L C : Int) (w : World) (hL : Laid w) :
    Calls Tryd.prog 3 #[.string s, .int .i64 pos, .agg #[.int .i64 L, .int .i64 C]] w fun r w' => r = .returned (.bool true) ∧ Below w.heap.size w w' := by
  have hts := fewB_size s
  have h8 : Hid (∀ w, Calls Tryd.prog 8 #[.string s] w fun e w' => e = .returned (.string (fewB s)) ∧ w' = w) := fun w => few_calls s hs w
  generalize fewB s = t at *
  by_cases hin : 0 ≤ pos ∧ pos ≤ (t.size : Int)
  · obtain ⟨n, rfl⟩ := Int.eq_ofNat_of_zero_le hin.1
    have hn : n ≤ t.size := by omega
    by_cases hf : ∃ i, i ≤ t.size ∧ ((markAt t i).1 : Int) = L ∧ ((markAt t i).2 : Int) = C
    · obtain ⟨i, hi, rfl, rfl⟩ := hf
      exact marks_ii s t hts n _ _ _ _ i h8 (fun w => Of_calls t (by omega) n hn w) (fun w => At_some t (by omega) i hi w) (fun w => refAt_some t (by omega) i hi w) (fun w => At_some t (by omega) n hn w) (fun w => refOf_calls t (by omega) n hn w) hin.1 hin.2 w hL
    · have hno : ∀ i, i ≤ t.size → ¬ (((markAt t i).1 : Int) = L ∧ ((markAt t i).2 : Int) = C) := fun i hi h => hf ⟨i, hi, h⟩
      exact marks_io s t hts n _ _ _ _ h8 (fun w => Of_calls t (by omega) n hn w) (fun w => At_none t (by omega) L C hno w) (fun w => refAt_none t (by omega) L C hno w) (fun w => At_some t (by omega) n hn w) (fun w => refOf_calls t (by omega) n hn w) hin.1 hin.2 w hL
  · have hp : pos < 0 ∨ (t.size : Int) < pos := by omega
    by_cases hf : ∃ i, i ≤ t.size ∧ ((markAt t i).1 : Int) = L ∧ ((markAt t i).2 : Int) = C
    · obtain ⟨i, hi, rfl, rfl⟩ := hf
      exact marks_oi s t hts pos _ _ 0 0 i h8 (fun w => Of_none t pos hp w) (fun w => At_some t (by omega) i hi w) (fun w => refAt_some t (by omega) i hi w) rfl rfl hp w hL
    · have hno : ∀ i, i ≤ t.size → ¬ (((markAt t i).1 : Int) = L ∧ ((markAt t i).2 : Int) = C) := fun i hi h => hf ⟨i, hi, h⟩
      exact marks_oo s t hts pos _ _ 0 0 h8 (fun w => Of_none t pos hp w) (fun w => At_none t (by omega) L C hno w) (fun w => refAt_none t (by omega) L C hno w) rfl rfl hp w hL

end Go.Proofs.YtjmpacenlmoldaaDoor
