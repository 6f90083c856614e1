/-
  Back of one other budget; of the very one; of another one, nil, the very one and the other one again.
-/
import Derived.Test.YtcjeccmnekmipaaKnown
namespace Go.Proofs.Ytcjeccmnekmipaa
open Go Go.RowKit

/-- of one other -/
theorem Back_one (B C A c : Nat) (s o : St) (w : World) (h : Bud w B s) (hC : Bud w C o) (hBC : B ≠ C) (hAB : A ≠ B) (hAC : A ≠ C) (hA : A < w.heap.size)
    (hs : s.ok) (ho : o.ok) (hm : (s.more o).ok) (hg : o.gone.ok) (hx : w.cell? ⟨A, 0, none⟩ = some (.pointer (some ⟨C, 0, none⟩))) :
    Calls Try.prog 14 #[.pointer (some ⟨B, 0, none⟩), .slice (some ⟨A, 0, none⟩) 1 c] w fun e w' => e = .returned (.tuple #[]) ∧ Bud w' B (s.more o) ∧ Bud w' C o.gone ∧ Only [B, C] w w' := by
  refine (Back_two B C A c s o [some C] w h hC hBC hAB hAC hA hs ho hm hg (by simp) (by simp) (fun j hj => ?_)).mono ?_
  · obtain rfl : j = 0 := by simp at hj; omega
    exact hx
  · rintro e w' ⟨rfl, s1, o1, hT, h1, h2, h3⟩
    rcases hT with ⟨hn, _⟩ | ⟨_, rfl, rfl⟩
    · exact absurd (by simp) hn
    · exact ⟨rfl, h1, h2, h3⟩

/-- of the very one (another budget stands by) -/
theorem Back_self (B C A c : Nat) (s o : St) (w : World) (h : Bud w B s) (hC : Bud w C o) (hBC : B ≠ C) (hAB : A ≠ B) (hAC : A ≠ C) (hA : A < w.heap.size)
    (hs : s.ok) (ho : o.ok) (hm : (s.more o).ok) (hg : o.gone.ok) (hx : w.cell? ⟨A, 0, none⟩ = some (.pointer (some ⟨B, 0, none⟩))) :
    Calls Try.prog 14 #[.pointer (some ⟨B, 0, none⟩), .slice (some ⟨A, 0, none⟩) 1 c] w fun e w' => e = .returned (.tuple #[]) ∧ Bud w' B s ∧ Bud w' C o ∧ Only [B, C] w w' := by
  refine (Back_two B C A c s o [some B] w h hC hBC hAB hAC hA hs ho hm hg (by simp) (by simp) (fun j hj => ?_)).mono ?_
  · obtain rfl : j = 0 := by simp at hj; omega
    exact hx
  · rintro e w' ⟨rfl, s1, o1, hT, h1, h2, h3⟩
    rcases hT with ⟨_, rfl, rfl⟩ | ⟨hn, _⟩
    · exact ⟨rfl, h1, h2, h3⟩
    · simp at hn
      exact absurd hn.symm hBC

/-- of another one, nil, the very one, the other one again -/
theorem Back_four (B C A c : Nat) (s o : St) (w : World) (h : Bud w B s) (hC : Bud w C o) (hBC : B ≠ C) (hAB : A ≠ B) (hAC : A ≠ C) (hA : A < w.heap.size)
    (hs : s.ok) (ho : o.ok) (hm : (s.more o).ok) (hg : o.gone.ok) (hx : Blk w A 24 #[.pointer (some ⟨C, 0, none⟩), .pointer none, .pointer (some ⟨B, 0, none⟩), .pointer (some ⟨C, 0, none⟩)]) :
    Calls Try.prog 14 #[.pointer (some ⟨B, 0, none⟩), .slice (some ⟨A, 0, none⟩) 4 c] w fun e w' => e = .returned (.tuple #[]) ∧ Bud w' B (s.more o) ∧ Bud w' C o.gone ∧ Only [B, C] w w' := by
  refine (Back_two B C A c s o [some C, none, some B, some C] w h hC hBC hAB hAC hA hs ho hm hg (by simp) (by simp) (fun j hj => ?_)).mono ?_
  · rw [Blk.cell hx]
    match j, hj with
    | 0, _ => rfl
    | 1, _ => rfl
    | 2, _ => rfl
    | 3, _ => rfl
  · rintro e w' ⟨rfl, s1, o1, hT, h1, h2, h3⟩
    rcases hT with ⟨hn, _⟩ | ⟨_, rfl, rfl⟩
    · exact absurd (by simp) hn
    · exact ⟨rfl, h1, h2, h3⟩

end Go.Proofs.Ytcjeccmnekmipaa
