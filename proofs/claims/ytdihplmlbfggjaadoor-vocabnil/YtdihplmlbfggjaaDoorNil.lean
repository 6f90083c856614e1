/-
  The law of no index.
-/
import Derived.Test.YtdihplmlbfggjaaDoorNils
namespace Go.Proofs.YtdihplmlbfggjaaDoor
open Go Go.RowKit Go.Maps

set_option maxRecDepth 100000 in
set_option maxHeartbeats 400000 in
theorem Nil_calls (s : ByteArray) (n : Int) (w : World) : Calls Tryd.prog 6 #[.string s, .int .i64 n] w fun e w' => e = .returned (.bool true) ∧ Below w.heap.size w w' := by
  obtain ⟨N, hN⟩ : ∃ N, w.heap.size = N := ⟨_, rfl⟩
  rw [hN]
  go_enter Tryd.func6, Tryd.ntmps6
  go_wp2_with (first
    | (go_at_call 19; refine (Base_nil _ _).mono ?_; rintro e w' ⟨rfl, rfl⟩)
    | (go_at_call 20; refine (Const_nil _ _).mono ?_; rintro e w' ⟨rfl, rfl⟩)
    | (go_at_call 16; refine (Fresh_nil _ _).mono ?_; rintro e w' ⟨rfl, rfl⟩))
  refine (Type_nil n _).mono ?_
  rintro e w1 ⟨⟨a1, c1, rfl⟩, hb1⟩
  rw [hN] at hb1
  have l1 := hb1.size
  go_wp2_with (first
    | (go_at_call 16; refine (Fresh_nil _ _).mono ?_; rintro e w' ⟨rfl, rfl⟩))
  refine (Name_nil n _).mono ?_
  rintro e w2 ⟨⟨v2, rfl⟩, hb2⟩
  have hbA := hb1.alloc (by omega) (.cells #[.slice a1 0 c1, .int .i64 0] 45)
  have lA := hbA.size
  have B2 : Below N w w2 := hbA.trans (hb2.mono (by omega))
  have l2 := B2.size
  clear hbA hb2 lA hb1
  go_wp2_with (first
    | (go_at_call 16; refine (Fresh_nil _ _).mono ?_; rintro e w' ⟨rfl, rfl⟩))
  refine (Table_nil _).mono ?_
  rintro e w3 ⟨rfl, hb3⟩
  have B3 : Below N w w3 := B2.trans (hb3.mono (by omega))
  have l3 := B3.size
  clear B2 hb3
  obtain ⟨T, hT⟩ : ∃ T, w3.heap.size = T := ⟨_, rfl⟩
  have bT := Blk.new' w3 T 28 #[.slice none 0 0, .slice none 0 0] hT
  have B4 := B3.alloc (by omega) (.cells #[.slice none 0 0, .slice none 0 0] 28)
  have l4 := B4.size
  go_wp2_with fail
  refine (known_calls _).mono ?_
  rintro e w5 ⟨rfl, hb5⟩
  have b5 := bT.below hb5 bT.lt
  have B5 : Below N w w5 := B4.trans (hb5.mono (by omega))
  have l5 := B5.size
  have d0 := b5.cell 0
  have d1 := b5.cell 1
  clear bT hb5 B4 l4 B3 hT
  go_wp2_with fail
  refine (Types_nil _).mono ?_
  rintro e w' ⟨rfl, rfl⟩
  obtain ⟨X, hX⟩ : ∃ X, w5.heap.size = X := ⟨_, rfl⟩
  have bX := Blk.new' w5 X 9 #[.string s] hX
  have B6 := B5.alloc (by omega) (.cells #[.string s] 9)
  have x0 := bX.cell 0
  have H1 := Has_nil1 X s _ x0
  clear x0 bX B5 b5 l5
  go_wp2_with fail
  refine H1.mono ?_
  rintro e w' ⟨rfl, hw'⟩
  rw [hw'] at B6
  clear hw' H1 hX
  go_wp2_with fail
  refine (Has_nil0 _).mono ?_
  rintro e w' ⟨rfl, rfl⟩
  go_wp2
  go_ret
  exact ⟨rfl, B6⟩

end Go.Proofs.YtdihplmlbfggjaaDoor
