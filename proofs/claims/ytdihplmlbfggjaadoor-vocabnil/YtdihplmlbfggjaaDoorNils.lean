/-
  What the methods say where there is no index.
-/
import Derived.Test.YtdihplmlbfggjaaDoorKnowns
namespace Go.Proofs.YtdihplmlbfggjaaDoor
open Go Go.RowKit Go.Maps

theorem Base_nil (s : ByteArray) (w : World) : Calls Tryd.prog 19 #[.pointer none, .string s] w fun e w' => e = .returned (.tuple #[.int .i64 0, .int .i64 13]) ∧ w = w' := by
  go_enter Tryd.func19, Tryd.ntmps19
  go_wp2
  refine bodyPost_ret (v := .tuple #[.int .i64 0, .int .i64 13]) (by simp [results, Tryd.results19, go_sem]) rfl ?_
  exact ⟨rfl, rfl⟩
theorem look_nil (n : Int) (w : World) : Calls Tryd.prog 42 #[.pointer none, .int .i64 n] w fun e w' => e = .returned (.tuple #[.agg #[.string ⟨#[]⟩, .slice none 0 0, .int .i64 0], .int .i64 13]) ∧ Below w.heap.size w w' := by
  have b := Blk.new w 47 #[.string ⟨#[]⟩, .slice none 0 0, .int .i64 0]
  have hB := (Below.refl w.heap.size w).alloc (Nat.le_refl _) (.cells #[.string ⟨#[]⟩, .slice none 0 0, .int .i64 0] 47)
  go_enter Tryd.func42, Tryd.ntmps42
  go_wp2
  generalize w.alloc (.cells #[.string ⟨#[]⟩, .slice none 0 0, .int .i64 0] 47) = W at *
  have d0 := b.cell 0
  have d1 := b.cell 1
  have d2 := b.cell 2
  refine bodyPost_ret (v := .tuple #[.agg #[.string ⟨#[]⟩, .slice none 0 0, .int .i64 0], .int .i64 13]) (by simp [results, Tryd.results42, go_sem, d0, d1, d2]) rfl ?_
  exact ⟨rfl, hB⟩
theorem Table_nil (w : World) : Calls Tryd.prog 14 #[.pointer none] w fun e w' => e = .returned (tab (.slice none 0 0) (.slice none 0 0)) ∧ Below w.heap.size w w' := by
  have b := Blk.new w 28 #[.slice none 0 0, .slice none 0 0]
  have hB := (Below.refl w.heap.size w).alloc (Nat.le_refl _) (.cells #[.slice none 0 0, .slice none 0 0] 28)
  go_enter Tryd.func14, Tryd.ntmps14
  go_wp2
  generalize w.alloc (.cells #[.slice none 0 0, .slice none 0 0] 28) = W at *
  have d0 := b.cell 0
  have d1 := b.cell 1
  refine bodyPost_ret (v := tab (.slice none 0 0) (.slice none 0 0)) (by simp [results, Tryd.results14, go_sem, d0, d1]) rfl ?_
  exact ⟨rfl, hB⟩
theorem Types_nil (w : World) : Calls Tryd.prog 23 #[.pointer none] w fun e w' => e = .returned (.slice none 0 0) ∧ w = w' := by
  go_enter Tryd.func23, Tryd.ntmps23
  go_wp2
  go_ret
  exact ⟨rfl, rfl⟩
theorem freshType_zero (w : World) : Calls Tryd.prog 43 #[tv (.slice none 0 0) 0] w fun e w' => ∃ a c, e = .returned (tv (.slice a 0 c) 0) ∧ Below w.heap.size w w' := by
  refine (freshType_calls tA okT (.slice none 0 0) w (Holds.nil _ _ _ _ (fun _ => rfl)) (by decide +kernel)).mono ?_
  rintro e w3 ⟨v3, rfl, h3, hb3⟩
  obtain ⟨a3, c3, rfl, _⟩ := h3.shape
  exact ⟨a3, c3, rfl, hb3⟩
theorem Type_nil (n : Int) (w : World) : Calls Tryd.prog 21 #[.pointer none, .int .i64 n] w fun e w' => (∃ a c, e = .returned (.tuple #[tv (.slice a 0 c) 0, .int .i64 13])) ∧ Below w.heap.size w w' := by
  obtain ⟨N, hN⟩ : ∃ N, w.heap.size = N := ⟨_, rfl⟩
  obtain ⟨W, hW⟩ : ∃ W, w.alloc (.cells #[.slice none 0 0, .int .i64 0] 45) = W := ⟨_, rfl⟩
  have b : Blk W N 45 #[.slice none 0 0, .int .i64 0] := by rw [← hW]; exact Blk.new' _ N 45 _ hN
  have hB : Below N w W := by rw [← hW]; exact (Below.refl _ _).alloc (by omega) _
  have lb := b.lt
  rw [hN]
  go_enter Tryd.func21, Tryd.ntmps21
  go_wp2_with fail
  refine (look_nil n _).mono ?_
  rintro e w1 ⟨rfl, hb1⟩
  have b1 := b.below hb1 b.lt
  have B1 : Below N w w1 := hB.trans (hb1.mono (by omega))
  have lN := b1.lt
  have b2 := b1.alloc (.cells #[.string ⟨#[]⟩, .slice none 0 0, .int .i64 0] 47)
  have B2 := B1.alloc (by omega) (.cells #[.string ⟨#[]⟩, .slice none 0 0, .int .i64 0] 47)
  have l2 := b2.lt
  clear b hB hb1 hW
  go_wp2_with fail
  refine (freshType_zero _).mono ?_
  rintro e w3 ⟨a3, c3, rfl, hb3⟩
  have b3 := b2.below hb3 b2.lt
  have B3 : Below N w w3 := B2.trans (hb3.mono (by omega))
  have l3 := b3.lt
  have e0 := b3.cell 0
  have e1 := b3.cell 1
  have f0 := b3.frozen 0
  have f1 := b3.frozen 1
  have b4 := (b3.set 0 (.slice a3 0 c3)).set 1 (.int .i64 0)
  have B4 : Below N w ((w3.setCell ⟨N, 0, none⟩ (.slice a3 0 c3)).setCell ⟨N, 1, none⟩ (.int .i64 0)) := bset (bset B3 (Nat.le_refl _) _) (Nat.le_refl _) _
  clear hb3 B3
  go_wp2
  generalize (w3.setCell ⟨N, 0, none⟩ (.slice a3 0 c3)).setCell ⟨N, 1, none⟩ (.int .i64 0) = W5 at *
  have d0 : W5.cell? ⟨N, 0, none⟩ = some (.slice a3 0 c3) := b4.cell 0
  have d1 : W5.cell? ⟨N, 1, none⟩ = some (.int .i64 0) := b4.cell 1
  refine bodyPost_ret (v := .tuple #[tv (.slice a3 0 c3) 0, .int .i64 13]) (by simp [results, Tryd.results21, go_sem, d0, d1]) rfl ?_
  exact ⟨⟨_, _, rfl⟩, B4⟩
theorem Name_nil (n : Int) (w : World) : Calls Tryd.prog 22 #[.pointer none, .int .i64 n] w fun e w' => (∃ v, e = .returned (.tuple #[.string v, .int .i64 13])) ∧ Below w.heap.size w w' := by
  go_enter Tryd.func22, Tryd.ntmps22
  go_wp2_with fail
  refine (look_nil n _).mono ?_
  rintro e w1 ⟨rfl, hb1⟩
  have l1 := hb1.size
  have B1 := hb1.alloc (by omega) (.cells #[.string ⟨#[]⟩, .slice none 0 0, .int .i64 0] 47)
  have l2 := B1.size
  go_wp2_with fail
  refine (Clone_calls ⟨#[]⟩ (by decide +kernel) _).mono ?_
  rintro e w2 ⟨rfl, hb2⟩
  have B2 : Below w.heap.size w w2 := B1.trans (hb2.mono (by omega))
  go_wp2
  refine bodyPost_ret (v := .tuple #[.string ⟨#[]⟩, .int .i64 13]) (by simp [results, Tryd.results22, go_sem]) rfl ?_
  exact ⟨⟨_, rfl⟩, B2⟩

end Go.Proofs.YtdihplmlbfggjaaDoor
