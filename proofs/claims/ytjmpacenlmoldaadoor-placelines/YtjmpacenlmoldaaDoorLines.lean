/-
  The walk of the law PlaceLines: whatever the text and the number, it answers true.
-/
import Derived.Test.YtjmpacenlmoldaaDoorAll
namespace Go.Proofs.YtjmpacenlmoldaaDoor
open Go Go.RowKit Go.Shelf Go.Sort Plain

set_option maxHeartbeats 800000 in
theorem lines_out (s t : ByteArray) (n : Int) (m : Nat) (xs : List Value) (_hm : m ≤ 1001) (hn : n < 1 ∨ (m : Int) < n)
    (h8 : Hid (∀ w, Calls Tryd.prog 8 #[.string s] w fun e w' => e = .returned (.string t) ∧ w' = w))
    (h16 : Hid (∀ w, Calls Tryd.prog 16 #[.string t] w fun r w' => (∃ g cap, r = .returned (.slice (some ⟨g, 0, none⟩) m cap) ∧ w'.ownsRow w.heap.size 9 1 (.slice (some ⟨g, 0, none⟩) m cap) m xs) ∧ Below w.heap.size w w'))
    (h17 : Hid (∀ w, Calls Tryd.prog 17 #[.string t, .int .i64 n] w fun e w' => e = .returned (.tuple #[.string ⟨#[]⟩, .int .i64 10]) ∧ Below w.heap.size w w'))
    (h18 : Hid (∀ w, Calls Tryd.prog 18 #[.string t] w fun e w' => e = .returned (.int .i64 (m : Int)) ∧ Below w.heap.size w w'))
    (w : World) (hL : Laid w) :
    Calls Tryd.prog 4 #[.string s, .int .i64 n] w fun r w' => r = .returned (.bool true) ∧ Below w.heap.size w w' := by
  go_enter Tryd.func4, Tryd.ntmps4
  go_wp2_with (go_at_call 8; refine (h8.out _).mono ?_; rintro e w' ⟨rfl, rfl⟩)
  refine (h16.out _).mono ?_
  rintro e w1 ⟨⟨g, cap, rfl, hrow⟩, hb1⟩
  go_wp2_with fail
  refine (h17.out _).mono ?_
  rintro e w2 ⟨rfl, hb2⟩
  have B2 : Below w'.heap.size w' w2 := hb1.trans (hb2.mono hb1.size)
  by_cases h1 : n < 1
  · go_wp2_with fail
    refine (known_calls _ (hL.below B2)).mono ?_
    rintro e w3 ⟨rfl, hb3⟩
    have B3 : Below w'.heap.size w' w3 := B2.trans (hb3.mono B2.size)
    go_wp2_with fail
    refine (h18.out _).mono ?_
    rintro e w4 ⟨rfl, hb4⟩
    have B4 : Below w'.heap.size w' w4 := B3.trans (hb4.mono B3.size)
    go_wp2
    go_ret
    exact ⟨rfl, B4⟩
  · have h2 : (m : Int) < n := by omega
    clear hn
    go_wp2_with fail
    refine (known_calls _ (hL.below B2)).mono ?_
    rintro e w3 ⟨rfl, hb3⟩
    have B3 : Below w'.heap.size w' w3 := B2.trans (hb3.mono B2.size)
    go_wp2_with fail
    refine (h18.out _).mono ?_
    rintro e w4 ⟨rfl, hb4⟩
    have B4 : Below w'.heap.size w' w4 := B3.trans (hb4.mono B3.size)
    go_wp2
    go_ret
    exact ⟨rfl, B4⟩

set_option maxHeartbeats 800000 in
theorem lines_yes (s t : ByteArray) (n m : Nat) (xs : List Value) (ln : ByteArray) (hm : m ≤ 1001) (h1 : 1 ≤ n) (h2 : n ≤ m) (hx : xs[n - 1]? = some (.string ln))
    (h8 : Hid (∀ w, Calls Tryd.prog 8 #[.string s] w fun e w' => e = .returned (.string t) ∧ w' = w))
    (h16 : Hid (∀ w, Calls Tryd.prog 16 #[.string t] w fun r w' => (∃ g cap, r = .returned (.slice (some ⟨g, 0, none⟩) m cap) ∧ w'.ownsRow w.heap.size 9 1 (.slice (some ⟨g, 0, none⟩) m cap) m xs) ∧ Below w.heap.size w w'))
    (h17 : Hid (∀ w, Calls Tryd.prog 17 #[.string t, .int .i64 (n : Int)] w fun e w' => e = .returned (.tuple #[.string ln, .int .i64 0]) ∧ Below w.heap.size w w'))
    (h18 : Hid (∀ w, Calls Tryd.prog 18 #[.string t] w fun e w' => e = .returned (.int .i64 (m : Int)) ∧ Below w.heap.size w w'))
    (w : World) (hL : Laid w) :
    Calls Tryd.prog 4 #[.string s, .int .i64 (n : Int)] w fun r w' => r = .returned (.bool true) ∧ Below w.heap.size w w' := by
  have HX : Hid (xs[n - 1]? = some (.string ln)) := hx
  clear hx
  obtain ⟨p, rfl⟩ : ∃ p, n = p + 1 := ⟨n - 1, by omega⟩
  have i1 : ¬ ((p + 1 : Nat) : Int) < 1 := by omega
  have i2 : ¬ (m : Int) < ((p + 1 : Nat) : Int) := by omega
  go_enter Tryd.func4, Tryd.ntmps4
  go_wp2_with (go_at_call 8; refine (h8.out _).mono ?_; rintro e w' ⟨rfl, rfl⟩)
  refine (h16.out _).mono ?_
  rintro e w1 ⟨⟨g, cap, rfl, hrow⟩, hb1⟩
  go_wp2_with fail
  refine (h17.out _).mono ?_
  rintro e w2 ⟨rfl, hb2⟩
  have B2 : Below w'.heap.size w' w2 := hb1.trans (hb2.mono hb1.size)
  have hg1 := (hrow.lt g rfl).2
  have c1 : w1.cell? ⟨g, p, none⟩ = some (.string ln) := by
    rw [hrow.cellAt p (by omega)]; exact HX.out
  have c2 : w2.cell? ⟨g, p, none⟩ = some (.string ln) := (hb2.cell (p := ⟨g, p, none⟩) hg1).trans c1
  have hg2 : g < w2.heap.size := Nat.lt_of_lt_of_le hg1 hb2.size
  go_wp2_with fail
  refine (known_calls _ (hL.below B2)).mono ?_
  rintro e w3 ⟨rfl, hb3⟩
  have B3 : Below w'.heap.size w' w3 := B2.trans (hb3.mono B2.size)
  have c3 : w3.cell? ⟨g, p, none⟩ = some (.string ln) := (hb3.cell (p := ⟨g, p, none⟩) hg2).trans c2
  have hg3 : g < w3.heap.size := Nat.lt_of_lt_of_le hg2 hb3.size
  go_wp2_with fail
  refine (h18.out _).mono ?_
  rintro e w4 ⟨rfl, hb4⟩
  have B4 : Below w'.heap.size w' w4 := B3.trans (hb4.mono B3.size)
  have c4 : w4.cell? ⟨g, p, none⟩ = some (.string ln) := (hb4.cell (p := ⟨g, p, none⟩) hg3).trans c3
  go_wp2
  go_ret
  exact ⟨rfl, B4⟩

theorem PlaceLines_calls (s : ByteArray) (hs : s.size ≤ 4611686018427387904) (n : Int) (w : World) (hL : Laid w) :
    Calls Tryd.prog 4 #[.string s, .int .i64 n] w fun r w' => r = .returned (.bool true) ∧ Below w.heap.size w w' := by
  have hts := fewB_size s
  have h8 : Hid (∀ w, Calls Tryd.prog 8 #[.string s] w fun e w' => e = .returned (.string (fewB s)) ∧ w' = w) := fun w => few_calls s hs w
  generalize fewB s = t at *
  have hm : (lns 0 [] t.data.toList).length ≤ 1001 := by
    have := (lns_bound t.data.toList 0 []).1
    have e : t.data.toList.length = t.size := by simp
    omega
  have hal : (allLines t).length = (lns 0 [] t.data.toList).length := by simp [allLines]
  have h18 : Hid (∀ w, Calls Tryd.prog 18 #[.string t] w fun e w' => e = .returned (.int .i64 ((lns 0 [] t.data.toList).length : Int)) ∧ Below w.heap.size w w') := fun w => by
    have := Lines_calls t (by omega) w
    rw [hal] at this
    exact this
  have h16 : Hid (∀ w, Calls Tryd.prog 16 #[.string t] w fun r w' => (∃ g cap, r = .returned (.slice (some ⟨g, 0, none⟩) (lns 0 [] t.data.toList).length cap) ∧ w'.ownsRow w.heap.size 9 1 (.slice (some ⟨g, 0, none⟩) (lns 0 [] t.data.toList).length cap) (lns 0 [] t.data.toList).length ((lns 0 [] t.data.toList).map fun x => strV x.2)) ∧ Below w.heap.size w w') := fun w => All_calls t hts w
  by_cases hn : 1 ≤ n ∧ n ≤ ((lns 0 [] t.data.toList).length : Int)
  · obtain ⟨k, rfl⟩ := Int.eq_ofNat_of_zero_le (show 0 ≤ n by omega)
    have hlt : k - 1 < (lns 0 [] t.data.toList).length := by omega
    obtain ⟨a, l, hal2⟩ : ∃ a l, (lns 0 [] t.data.toList)[k - 1]? = some (a, l) := ⟨_, _, List.getElem?_eq_getElem hlt⟩
    have hf := findL_of t k a l (by omega) hal2
    exact lines_yes s t k _ _ ⟨l.toArray⟩ hm (by omega) (by omega) (by rw [List.getElem?_map, hal2]; rfl) h8 h16 (fun w => Line_some t (by omega) k a _ hf w) h18 w hL
  · have hf : findL t n = none := findL_miss t n (by rw [hal]; exact hn)
    exact lines_out s t n _ _ hm (by omega) h8 h16 (fun w => Line_none t (by omega) n hf w) h18 w hL

end Go.Proofs.YtjmpacenlmoldaaDoor
