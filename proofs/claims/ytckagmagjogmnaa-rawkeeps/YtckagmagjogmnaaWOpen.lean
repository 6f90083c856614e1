/-
  A world that came in: its number of bases, and two lists of types.
-/
import Derived.Test.YtckagmagjogmnaaRawOpen
import Derived.Test.YtckagmagjogmnaaHeadC
namespace Go.Proofs.Ytckagmagjogmnaa
open Go Go.ChangeShapes Go.WideShapes Go.ChangeAt Go.RowKit Go.Joins

theorem cells47 : Try.prog.cellsOf 47 = 3 := by kernel_rfl

set_option maxRecDepth 100000 in
theorem world_open {H : Type} {enc : TypeId × Value → H} {W : World} {base : Nat} {v : Value} {d : DataW H} {p : List MemPlace} (hv : Value.okWide Try.prog W .any base 47 v) (h : DataW.Trod enc Try.prog W 0 (fun _ => true) true 47 v d p) :
    ∃ (bs : Int) (cs ms : List Ty) (c m : Value), v = wov bs c m ∧ Holds W okT cs c ∧ Holds W okT ms m := by
  obtain ⟨cs, rfl, hcs⟩ := okWide_struct Try.underlying47 hv
  rw [cells47] at hcs
  obtain ⟨v0, v1, v2, rfl⟩ : ∃ v0 v1 v2, cs = #[v0, v1, v2] := ⟨cs[0], cs[1], cs[2], by
    apply Array.ext
    · exact hcs
    · intro i h1 h2
      match i, h2 with
      | 0, _ => rfl
      | 1, _ => rfl
      | 2, _ => rfl⟩
  clear hv hcs
  obtain ⟨m, hm⟩ := h
  change DataW.trod enc Try.prog W 0 (fun _ => true) true m 47 [v0, v1, v2] = _ at hm
  obtain ⟨xs, m', _, _, _, hxl, hf⟩ := DataW.trod_struct Try.underlying47 hm
  obtain ⟨y0, hy0⟩ : ∃ y0, xs[0]? = some y0 := ⟨_, List.getElem?_eq_getElem (by rw [hxl]; decide)⟩
  obtain ⟨y1, hy1⟩ : ∃ y1, xs[1]? = some y1 := ⟨_, List.getElem?_eq_getElem (by rw [hxl]; decide)⟩
  obtain ⟨y2, hy2⟩ : ∃ y2, xs[2]? = some y2 := ⟨_, List.getElem?_eq_getElem (by rw [hxl]; decide)⟩
  have t0 := hf 0 _ rfl
  have t1 := hf 1 _ rfl
  have t2 := hf 2 _ rfl
  rw [hy0] at t0
  rw [hy1] at t1
  rw [hy2] at t2
  change DataW.trod enc Try.prog W 0 (fun _ => true) true m' 3 (List.take (Try.prog.cellsOf 3) (List.drop 0 [v0, v1, v2])) = some y0 at t0
  change DataW.trod enc Try.prog W 0 (fun _ => true) true m' 22 (List.take (Try.prog.cellsOf 22) (List.drop 1 [v0, v1, v2])) = some y1 at t1
  change DataW.trod enc Try.prog W 0 (fun _ => true) true m' 22 (List.take (Try.prog.cellsOf 22) (List.drop 2 [v0, v1, v2])) = some y2 at t2
  simp only [List.drop_zero, List.drop_succ_cons, cells3, cells22, List.take_succ_cons, List.take_zero] at t0 t1 t2
  obtain ⟨b, e0, _, _⟩ := DataW.trod_int Try.underlying3 t0
  obtain ⟨ts1, sl1, e1, h1⟩ := types_open m' _ _ t1
  obtain ⟨ts2, sl2, e2, h2⟩ := types_open m' _ _ t2
  simp only [List.cons.injEq, and_true] at e0 e1 e2
  subst e0 e1 e2
  exact ⟨b, ts1, ts2, v1, v2, rfl, h1, h2⟩

end Go.Proofs.Ytckagmagjogmnaa
