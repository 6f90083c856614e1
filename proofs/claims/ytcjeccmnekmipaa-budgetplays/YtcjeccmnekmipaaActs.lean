/-
  A list of calls that came in: what its cells hold.
-/
import Derived.Test.YtcjeccmnekmipaaFrame
import Derived.Deep.Strs
namespace Go.Proofs.Ytcjeccmnekmipaa
open Go Go.ChangeShapes Go.WideShapes Go.ChangeAt Go.RowKit Go.Joins

theorem act_open {H : Type} {enc : TypeId × Value → H} {W : World} {base : Nat} {sp : Nat → Bool} {held : Bool} {n : Nat} {cs : List Value} {x : DataW H × List MemPlace}
    (hl : cs.length = 4) (h : DataW.trod enc Try.prog W base sp held n 31 cs = some x) : ∃ z : Nat → Int, ∀ i, i < 4 → cs[i]? = some (.int .i64 (z i)) := by
  obtain ⟨xs, m, _, _, _, hlen, hf⟩ := DataW.trod_struct Try.underlying31 h
  match cs, hl, xs, hlen with
  | [c0, c1, c2, c3], _, [y0, y1, y2, y3], _ =>
    have f0 : DataW.trod enc Try.prog W base sp held m 3 [c0] = some y0 := by simpa [cells3] using hf 0 _ rfl
    have f1 : DataW.trod enc Try.prog W base sp held m 3 [c1] = some y1 := by simpa [cells3] using hf 1 _ rfl
    have f2 : DataW.trod enc Try.prog W base sp held m 3 [c2] = some y2 := by simpa [cells3] using hf 2 _ rfl
    have f3 : DataW.trod enc Try.prog W base sp held m 3 [c3] = some y3 := by simpa [cells3] using hf 3 _ rfl
    obtain ⟨a, e0, _, _⟩ := DataW.trod_int Try.underlying3 f0
    obtain ⟨b, e1, _, _⟩ := DataW.trod_int Try.underlying3 f1
    obtain ⟨c, e2, _, _⟩ := DataW.trod_int Try.underlying3 f2
    obtain ⟨d, e3, _, _⟩ := DataW.trod_int Try.underlying3 f3
    simp only [List.cons.injEq, and_true] at e0 e1 e2 e3
    subst e0 e1 e2 e3
    refine ⟨fun i => if i = 0 then a else if i = 1 then b else if i = 2 then c else d, fun i hi => ?_⟩
    match i, hi with
    | 0, _ => rfl
    | 1, _ => rfl
    | 2, _ => rfl
    | 3, _ => rfl

theorem acts_open {H : Type} {enc : TypeId × Value → H} {W : World} {a0 : Option Addr} {len cap : Nat} {d : DataW H} {p : List MemPlace}
    (h : DataW.Trod enc Try.prog W 0 (fun _ => true) true 22 (.slice a0 len cap) d p) :
    len ≤ maxLen ∧ ∃ xs : Nat → Nat → Int, 0 < len → ∃ A o, a0 = some ⟨A, o, none⟩ ∧ A < W.heap.size ∧ ∀ j, j < len → ∀ i, i < 4 → W.cell? ⟨A, o + j * 4 + i, none⟩ = some (.int .i64 (xs j i)) := by
  obtain ⟨fuel, hf⟩ := h
  rcases Deep.open_slice Try.underlying22 hf with ⟨hcs, _⟩ | ⟨a, len', cap', m, n, D, Pl, hcs, _, hl, hm, hmm, _, hall⟩
  · simp [Value.cells] at hcs
    obtain ⟨_, rfl, _⟩ := hcs
    exact ⟨Nat.zero_le _, fun _ _ => 0, fun h => absurd h (by omega)⟩
  · simp [Value.cells] at hcs
    obtain ⟨rfl, rfl, rfl⟩ := hcs
    simp only [if_true] at hmm
    subst hmm
    rw [cells31] at hall
    have hF : ∀ i, i < m → ∃ z : Nat → Int, ∀ j, j < 4 → W.cell? ((a.add (i * 4)).add j) = some (.int .i64 (z j)) := fun i hi => by
      obtain ⟨cs', h1, h2⟩ := hall i hi
      obtain ⟨_, hlen, hcell⟩ := World.cells?_some h1
      obtain ⟨z, hz⟩ := act_open hlen h2
      exact ⟨z, fun j hj => (hcell j hj).trans (hz j hj)⟩
    obtain ⟨F, hFF⟩ := @Deep.choose_lt (Nat → Int) ⟨fun _ => 0⟩ m _ hF
    refine ⟨Nat.le_trans hl hm, F, fun h0 => ?_⟩
    obtain ⟨b, off, spot⟩ := a
    have c0 := hFF 0 (by omega) 0 (by omega)
    have c0' : W.cell? ⟨b, off, spot⟩ = some (.int .i64 (F 0 0)) := by simpa [Addr.add] using c0
    have hs : spot = none := spot_none c0'
    subst hs
    refine ⟨b, off, rfl, World.block_lt_of_cell? W _ c0', fun j hj i hi => ?_⟩
    have := hFF j (by omega) i hi
    rw [add_plain, add_plain] at this
    exact this

end Go.Proofs.Ytcjeccmnekmipaa
