/-
  The contracts of what turns heads: variable, inside, outside, look.
-/
import Derived.Test.YtheokboggjnenaaEtaP
import Derived.Test.YtheokboggjnenaaHoldT
import Derived.Test.YtheokboggjnenaaSize
namespace Go.Proofs.Ytheokboggjnenaa
open Go Go.RowKit

/-- A head, as a value. -/
abbrev hv (k i : Int) : Value := .agg #[.int .i64 k, .int .i64 i]

theorem below_two (w : World) (a b : Obj) : Below w.heap.size w ((w.alloc a).alloc b) := ((Below.refl _ _).alloc (Nat.le_refl _) a).alloc (by simp) b

theorem variable_calls (i n : Nat) (a : Option Addr) (cap : Nat) (hi : i < n) (hn : n ≤ 1000000) (w : World) :
    Calls Try.prog 116 #[.int .i64 i, .slice a n cap] w fun e w' => e = .returned (hv 0 ((n : Int) - 1 - i)) ∧ Below w.heap.size w w' := by
  go_enter Try.func116, Try.ntmps116
  go_wp2
  have hB := (Below.refl _ w).alloc (Nat.le_refl _) (.cells #[.int .i64 0, .int .i64 ((n : Int) - 1 - i)] 31)
  have b0 := Blk.new w 31 #[.int .i64 0, .int .i64 ((n : Int) - 1 - i)]
  generalize w.alloc (.cells #[.int .i64 0, .int .i64 ((n : Int) - 1 - i)] 31) = W at *
  have d0 := b0.cell 0
  have d1 := b0.cell 1
  exact bodyPost_ret (v := hv 0 ((n : Int) - 1 - i)) (by simp [results, Try.results116, go_sem, d0, d1]) rfl ⟨rfl, hB⟩

theorem inside_calls (k i : Int) (n : Nat) (hn : n ≤ 1000000) (h1 : k = 0 → -1000000000 ≤ i) (h2 : k = 0 → i ≤ 9223372036854775807 - n) (w : World) :
    Calls Try.prog 115 #[hv k i, .int .i64 n] w fun e w' => e = .returned (hv k (insI k i n)) ∧ Below w.heap.size w w' := by
  by_cases hk : k = 0
  · have z1 : (k == 0) = true := by simp [hk]
    have h1' := h1 hk
    have h2' := h2 hk
    have hR : Hid (insI k i n = i + n) := by show _ = _; unfold insI; rw [if_pos hk]
    clear h1 h2 hk
    go_enter Try.func115, Try.ntmps115
    go_wp2
    have hB := below_two w (.cells #[.int .i64 k, .int .i64 (i + n)] 31) (.cells #[.int .i64 k, .int .i64 (i + n)] 31)
    have b0 := Blk.new' (w.alloc (.cells #[.int .i64 k, .int .i64 (i + n)] 31)) (w.heap.size + 1) 31 #[.int .i64 k, .int .i64 (i + n)] (by simp)
    generalize (w.alloc (.cells #[.int .i64 k, .int .i64 (i + n)] 31)).alloc (.cells #[.int .i64 k, .int .i64 (i + n)] 31) = W at *
    have d0 := b0.cell 0
    have d1 := b0.cell 1
    exact bodyPost_ret (v := hv k (i + n)) (by simp [results, Try.results115, go_sem, d0, d1]) rfl ⟨by rw [hR.out], hB⟩
  · have z1 : (k == 0) = false := by simp [hk]
    have hR : Hid (insI k i n = i) := by show _ = _; unfold insI; rw [if_neg hk]
    clear h1 h2 hk
    go_enter Try.func115, Try.ntmps115
    go_wp2
    have hB := below_two w (.cells #[.int .i64 k, .int .i64 i] 31) (.cells #[.int .i64 k, .int .i64 i] 31)
    have b0 := Blk.new' (w.alloc (.cells #[.int .i64 k, .int .i64 i] 31)) (w.heap.size + 1) 31 #[.int .i64 k, .int .i64 i] (by simp)
    generalize (w.alloc (.cells #[.int .i64 k, .int .i64 i] 31)).alloc (.cells #[.int .i64 k, .int .i64 i] 31) = W at *
    have d0 := b0.cell 0
    have d1 := b0.cell 1
    exact bodyPost_ret (v := hv k i) (by simp [results, Try.results115, go_sem, d0, d1]) rfl ⟨by rw [hR.out], hB⟩

theorem outside_in (k i : Int) (n : Nat) (h : k ≠ 0 ∨ i < n) (w : World) :
    Calls Try.prog 57 #[hv k i, .int .i64 n] w fun e w' => e = .returned (.tuple #[.int .i64 0, .bool false]) ∧ Below w.heap.size w w' := by
  by_cases hk : k = 0
  · have z1 : (k == 0) = true := by simp [hk]
    have z2 : (k != 0) = false := by simp [hk]
    have z3 : decide (i < (n : Int)) = true := by simp; omega
    clear h hk
    go_enter Try.func57, Try.ntmps57
    go_wp2
    exact bodyPost_ret (v := .tuple #[.int .i64 0, .bool false]) (by simp [results, Try.results57, go_sem]) rfl ⟨rfl, (Below.refl _ _).alloc (Nat.le_refl _) _⟩
  · have z1 : (k == 0) = false := by simp [hk]
    have z2 : (k != 0) = true := by simp [hk]
    clear h hk
    go_enter Try.func57, Try.ntmps57
    go_wp2
    exact bodyPost_ret (v := .tuple #[.int .i64 0, .bool false]) (by simp [results, Try.results57, go_sem]) rfl ⟨rfl, (Below.refl _ _).alloc (Nat.le_refl _) _⟩
theorem outside_out (i : Int) (n : Nat) (h : (n : Int) ≤ i) (hi : i ≤ 9223372036854775807) (w : World) :
    Calls Try.prog 57 #[hv 0 i, .int .i64 n] w fun e w' => e = .returned (.tuple #[.int .i64 (i - n), .bool true]) ∧ Below w.heap.size w w' := by
  have z3 : decide (i < (n : Int)) = false := by simp; omega
  go_enter Try.func57, Try.ntmps57
  go_wp2
  exact bodyPost_ret (v := .tuple #[.int .i64 (i - n), .bool true]) (by simp [results, Try.results57, go_sem]) rfl ⟨rfl, (Below.refl _ _).alloc (Nat.le_refl _) _⟩

/-- A head as it is seen from outside of so many binders, and whether it is to be seen there. -/
theorem look_other (k i : Int) (n : Nat) (h : k ≠ 0) (w : World) :
    Calls Try.prog 62 #[hv k i, .int .i64 n] w fun e w' => e = .returned (.tuple #[hv k i, .bool true]) ∧ Below w.heap.size w w' := by
  have z2 : (k != 0) = true := by simp [h]
  clear h
  go_enter Try.func62, Try.ntmps62
  go_wp2
  have hB := below_two w (.cells #[.int .i64 k, .int .i64 i] 31) (.cells #[.int .i64 k, .int .i64 i] 31)
  have b0 := Blk.new' (w.alloc (.cells #[.int .i64 k, .int .i64 i] 31)) (w.heap.size + 1) 31 #[.int .i64 k, .int .i64 i] (by simp)
  generalize (w.alloc (.cells #[.int .i64 k, .int .i64 i] 31)).alloc (.cells #[.int .i64 k, .int .i64 i] 31) = W at *
  have d0 := b0.cell 0
  have d1 := b0.cell 1
  exact bodyPost_ret (v := .tuple #[hv k i, .bool true]) (by simp [results, Try.results62, go_sem, d0, d1]) rfl ⟨rfl, hB⟩
theorem look_zero (i : Int) (n : Nat) (j : Int) (r : Bool) (hc : ∀ w, Calls Try.prog 57 #[hv 0 i, .int .i64 n] w fun e w' => e = .returned (.tuple #[.int .i64 j, .bool r]) ∧ Below w.heap.size w w') (w : World) :
    Calls Try.prog 62 #[hv 0 i, .int .i64 n] w fun e w' => e = .returned (.tuple #[hv 0 j, .bool r]) ∧ Below w.heap.size w w' := by
  obtain ⟨N, hN⟩ : ∃ N, w.heap.size = N := ⟨_, rfl⟩
  rw [hN]
  obtain ⟨W, hW⟩ : ∃ W, (w.alloc (.cells #[.int .i64 0, .int .i64 i] 31)).alloc (.cells #[.int .i64 0, .int .i64 0] 31) = W := ⟨_, rfl⟩
  have hB : Below N w W := by rw [← hW, ← hN]; exact below_two _ _ _
  have b0 : Blk W (N + 1) 31 #[.int .i64 0, .int .i64 0] := by rw [← hW]; exact Blk.new' _ _ 31 _ (by simp [hN])
  have hcW := hc W
  have HW : Hid _ := hW
  clear hc hW
  go_enter Try.func62, Try.ntmps62
  go_wp2_with fail
  rw [HW.out]
  clear HW
  refine hcW.mono ?_
  rintro e w1 ⟨rfl, hb1⟩
  have b1 := b0.below hb1 b0.lt
  have l1 := b0.lt
  have hB1 : Below N w w1 := hB.trans (hb1.mono (by omega))
  have d0 := b1.cell 0
  have d1 := b1.cell 1
  have f0 := b1.frozen 0
  have f1 := b1.frozen 1
  have hB2 : Below N w ((w1.setCell ⟨N + 1, 0, none⟩ (.int .i64 0)).setCell ⟨N + 1, 1, none⟩ (.int .i64 j)) := bset (bset hB1 (by omega) _) (by omega) _
  have b2 := (b1.set 0 (.int .i64 0)).set 1 (.int .i64 j)
  go_wp2
  generalize (w1.setCell ⟨N + 1, 0, none⟩ (.int .i64 0)).setCell ⟨N + 1, 1, none⟩ (.int .i64 j) = W5 at *
  have e0 : W5.cell? ⟨N + 1, 0, none⟩ = some (.int .i64 0) := b2.cell 0
  have e1 : W5.cell? ⟨N + 1, 1, none⟩ = some (.int .i64 j) := b2.cell 1
  exact bodyPost_ret (v := .tuple #[hv 0 j, .bool r]) (by simp [results, Try.results62, go_sem, e0, e1]) rfl ⟨rfl, hB2⟩
theorem look_in (i : Int) (n : Nat) (h : i < n) (w : World) :
    Calls Try.prog 62 #[hv 0 i, .int .i64 n] w fun e w' => e = .returned (.tuple #[hv 0 0, .bool false]) ∧ Below w.heap.size w w' :=
  look_zero i n 0 false (fun w => outside_in 0 i n (.inr h) w) w
theorem look_out (i : Int) (n : Nat) (h : (n : Int) ≤ i) (hi : i ≤ 9223372036854775807) (w : World) :
    Calls Try.prog 62 #[hv 0 i, .int .i64 n] w fun e w' => e = .returned (.tuple #[hv 0 (i - n), .bool true]) ∧ Below w.heap.size w w' :=
  look_zero i n (i - n) true (fun w => outside_out i n h hi w) w

end Go.Proofs.Ytheokboggjnenaa
