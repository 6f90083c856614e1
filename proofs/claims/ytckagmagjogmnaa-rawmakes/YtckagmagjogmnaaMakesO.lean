/-
  Lists that came in: raw terms, and how long they may be.
-/
import Derived.Test.YtckagmagjogmnaaRawOpen
namespace Go.Proofs.Ytckagmagjogmnaa
open Go Go.ChangeShapes Go.WideShapes Go.ChangeAt Go.RowKit Go.Joins

theorem raws_list {H : Type} {enc : TypeId × Value → H} {W : World} {v : Value} {d : DataW H} {p : List MemPlace} (hv : ∃ a n c, v = .slice a n c) (h : DataW.Trod enc Try.prog W 0 (fun _ => true) true 25 v d p) :
    ∃ ts : List Rw, HoldsR W okT ts v ∧ ts.length ≤ 9223372036854775807 := by
  obtain ⟨a, n, c, rfl⟩ := hv
  obtain ⟨m, hm⟩ := h
  have hm2 := hm
  obtain ⟨ts, sl, e, hts, _⟩ := raws_open m _ _ hm
  simp [Value.cells] at e
  subst e
  refine ⟨ts, hts, ?_⟩
  obtain ⟨a9, cap, e9, _⟩ := hts.shape
  cases e9
  have hx : maxLen ≤ 9223372036854775807 := by decide
  rcases DataW.trod_slice Try.underlying25 hm2 with ⟨e, _⟩ | ⟨a', len, cap', _, _, _, _, e, _, _, hl, hcm, _⟩
  · simp [Value.cells] at e
    simp [e]
  · simp [Value.cells] at e
    omega
theorem list_len {H : Type} {enc : TypeId × Value → H} {W : World} {v : Value} {d : DataW H} {p : List MemPlace} {us : List Ty} (h : DataW.Trod enc Try.prog W 0 (fun _ => true) true 22 v d p) (hh : Holds W okT us v) : us.length ≤ 9223372036854775807 := by
  obtain ⟨a, cap, rfl, _⟩ := hh.shape
  obtain ⟨m, hm⟩ := h
  have hx : maxLen ≤ 9223372036854775807 := by decide
  rcases DataW.trod_slice Try.underlying22 hm with ⟨e, _⟩ | ⟨a', len, cap', _, _, _, _, e, _, _, hl, hcm, _⟩
  · simp [Value.cells] at e
    simp [e]
  · simp [Value.cells] at e
    omega

end Go.Proofs.Ytckagmagjogmnaa
