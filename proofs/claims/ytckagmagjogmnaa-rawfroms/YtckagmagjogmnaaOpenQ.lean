/-
  Types that came in: what their cells hold.
-/
import Derived.Test.YtckagmagjogmnaaToT
import Derived.Test.YtckagmagjogmnaaRows
import Derived.ProofKit
import Derived.OpenShut
import Derived.ShutString
import Derived.ChangeOld
import Derived.Below
import Derived.Carry
import Derived.Lib.SmallJoins
import Derived.Deep.Slices
import Derived.Deep.Strs
import Derived.Test.YtckagmagjogmnaaChkT
import Derived.Test.YtckagmagjogmnaaWOpen
namespace Go.Proofs.Ytckagmagjogmnaa
open Go Go.ChangeShapes Go.WideShapes Go.ChangeAt Go.RowKit Go.Joins

theorem cells55 : Try.prog.cellsOf 24 = 2 := by kernel_rfl
theorem cells27Q : Try.prog.cellsOf 71 = 4 := by kernel_rfl
theorem cells24Q : Try.prog.cellsOf 68 = 2 := by kernel_rfl
theorem cells25Q : Try.prog.cellsOf 69 = 1 := by kernel_rfl

/-- A head that came in. -/
theorem head_trod {H : Type} {enc : TypeId × Value → H} {W : World} {held : Bool} {n : Nat} {v0 v1 : Value} {x : DataW H × List MemPlace} (h : DataW.trod enc Try.prog W 0 (fun _ => true) held n 68 [v0, v1] = some x) :
    ∃ k i : Int, v0 = .int .i64 k ∧ v1 = .int .i64 i ∧ -9223372036854775808 ≤ i ∧ i ≤ 9223372036854775807 := by
  obtain ⟨y0, y1, m', _, _, t0, t1⟩ := trod_struct2 Try.underlying68 h
  change DataW.trod enc Try.prog W 0 (fun _ => true) held m' 3 (List.take (Try.prog.cellsOf 3) (List.drop 0 [v0, v1])) = some y0 at t0
  change DataW.trod enc Try.prog W 0 (fun _ => true) held m' 3 (List.take (Try.prog.cellsOf 3) (List.drop 1 [v0, v1])) = some y1 at t1
  simp only [List.drop_zero, List.drop_succ_cons, cells3, List.take_succ_cons, List.take_zero] at t0 t1
  obtain ⟨k, e0, _, _⟩ := DataW.trod_int Try.underlying3 t0
  obtain ⟨i, e1, _, hwf⟩ := DataW.trod_int Try.underlying3 t1
  simp only [List.cons.injEq, and_true] at e0 e1
  exact ⟨k, i, e0, e1, int_range hwf⟩

theorem term_cells {H : Type} {enc : TypeId × Value → H} {W : World} {held : Bool} {n : Nat} {v0 v1 v2 v3 : Value} {x : DataW H × List MemPlace} (h : DataW.trod enc Try.prog W 0 (fun _ => true) held n 71 [v0, v1, v2, v3] = some x) :
    ∃ (m : Nat) (k i : Int) (bs : List Ty) (y : DataW H × List MemPlace), m < n ∧ v1 = .int .i64 k ∧ v2 = .int .i64 i ∧ -9223372036854775808 ≤ i ∧ i ≤ 9223372036854775807 ∧ Holds W okT bs v0 ∧ DataW.trod enc Try.prog W 0 (fun _ => true) held m 69 [v3] = some y := by
  obtain ⟨xs, m', hm', _, _, hxl, hf⟩ := DataW.trod_struct Try.underlying71 h
  obtain ⟨y0, hy0⟩ : ∃ y0, xs[0]? = some y0 := ⟨_, List.getElem?_eq_getElem (by rw [hxl]; decide)⟩
  obtain ⟨y1, hy1⟩ : ∃ y1, xs[1]? = some y1 := ⟨_, List.getElem?_eq_getElem (by rw [hxl]; decide)⟩
  obtain ⟨y2, hy2⟩ : ∃ y2, xs[2]? = some y2 := ⟨_, List.getElem?_eq_getElem (by rw [hxl]; decide)⟩
  have t0 := hf 0 _ rfl
  have t1 := hf 1 _ rfl
  have t2 := hf 2 _ rfl
  rw [hy0] at t0
  rw [hy1] at t1
  rw [hy2] at t2
  change DataW.trod enc Try.prog W 0 (fun _ => true) held m' 22 (List.take (Try.prog.cellsOf 22) (List.drop 0 [v0, v1, v2, v3])) = some y0 at t0
  change DataW.trod enc Try.prog W 0 (fun _ => true) held m' 68 (List.take (Try.prog.cellsOf 68) (List.drop 1 [v0, v1, v2, v3])) = some y1 at t1
  change DataW.trod enc Try.prog W 0 (fun _ => true) held m' 69 (List.take (Try.prog.cellsOf 69) (List.drop 3 [v0, v1, v2, v3])) = some y2 at t2
  simp only [List.drop_zero, List.drop_succ_cons, cells22, cells24Q, cells25Q, List.take_succ_cons, List.take_zero] at t0 t1 t2
  obtain ⟨bs, sl, e0, hbs⟩ := types_open m' _ _ t0
  obtain ⟨k, i, e1, e2, h1, h2⟩ := head_trod t1
  simp only [List.cons.injEq, and_true] at e0
  subst e0
  exact ⟨m', k, i, bs, y2, by omega, e1, e2, h1, h2, hbs, t2⟩

theorem terms_open {H : Type} {enc : TypeId × Value → H} {W : World} {held : Bool} (n : Nat) : ∀ (cs : List Value) (x : DataW H × List MemPlace), DataW.trod enc Try.prog W 0 (fun _ => true) held n 69 cs = some x →
    ∃ (ts : List Tm) (sl : Value), cs = [sl] ∧ HoldsT W okT ts sl := by
  induction n using Nat.strongRecOn with
  | _ n ih =>
  intro cs x h
  rcases DataW.trod_slice Try.underlying69 h with ⟨hcs, _⟩ | ⟨a, len, cap, elems, rest, m, hm, hcs, _, _, hl, hcm, hel, hall, _⟩
  · exact ⟨[], .slice none 0 0, hcs, HoldsT.nil _ _ _ _ (fun _ => rfl)⟩
  · rw [cells27Q] at hall
    have hF : ∀ i, i < len → ∃ z : Tc, Holds W okT z.t.binds z.sb ∧ HoldsT W okT z.t.args z.sr ∧ ∀ j, j < 4 → W.cell? ((a.add (i * 4)).add j) = ([z.sb, .int .i64 z.t.kind, .int .i64 z.t.idx, z.sr] : List Value)[j]? := fun i hi => by
      have h1 := hall i hi
      obtain ⟨y, hy⟩ : ∃ y, elems[i]? = some y := ⟨_, List.getElem?_eq_getElem (by omega)⟩
      rw [hy] at h1
      obtain ⟨cs', h2, h3⟩ := Option.bind_eq_some_iff.1 h1
      obtain ⟨_, hlen, hcell⟩ := World.cells?_some h2
      match cs', hlen with
      | [v0, v1, v2, v3], _ =>
        obtain ⟨m', k, i', bs, y', hm', e1, e2, _, _, hbs, t3⟩ := term_cells h3
        obtain ⟨ts', sl', e3, hts⟩ := ih m' (by omega) _ _ t3
        simp only [List.cons.injEq, and_true] at e3
        subst e1 e2 e3
        exact ⟨⟨v0, v3, .mk bs k i' ts'⟩, hbs, hts, fun j hj => hcell j hj⟩
    obtain ⟨F, hFF⟩ := @Deep.choose_lt Tc ⟨⟨.slice none 0 0, .slice none 0 0, .mk [] 0 0 []⟩⟩ len _ hF
    refine ⟨(List.range len).map (fun i => (F i).t), .slice (some a) len cap, hcs, ?_⟩
    have hget : ∀ i t, ((List.range len).map (fun i => (F i).t))[i]? = some t → i < len ∧ t = (F i).t := by
      intro i t hi
      rw [List.getElem?_map] at hi
      obtain ⟨j, hj, rfl⟩ := Option.map_eq_some_iff.1 hi
      obtain ⟨hjl, hj2⟩ := List.getElem?_eq_some_iff.1 hj
      rw [List.getElem_range] at hj2
      subst hj2
      exact ⟨by simpa using hjl, rfl⟩
    have hlen : ((List.range len).map (fun i => (F i).t)).length = len := by simp
    have hsp : ∀ i, i < len → a.spot = none := fun i hi => by
      have c := (hFF 0 (by omega)).2.2 0 (by omega)
      obtain ⟨b, off, spot⟩ := a
      have c' : W.cell? ⟨b, off, spot⟩ = some (F 0).sb := by simpa [Addr.add] using c
      exact World.cell?_spot c'
    have := HoldsT.mk (w := W) (ok := okT) ((List.range len).map (fun i => (F i).t)) (some a) cap (fun i => (F i).sb) (fun i => (F i).sr) (by rw [hlen]; exact hl) (fun h => by cases h)
      (fun i t hi => by
        obtain ⟨hil, rfl⟩ := hget i t hi
        have c := (hFF i hil).2.2
        have hs := hsp i hil
        obtain ⟨b, off, spot⟩ := a
        simp only at hs
        subst hs
        have c0 := c 0 (by omega)
        have c1 := c 1 (by omega)
        have c2 := c 2 (by omega)
        have c3 := c 3 (by omega)
        rw [add_plain, add_plain] at c0 c1 c2 c3
        exact ⟨b, off, rfl, trivial, c0, c1, c2, c3⟩)
      (fun i t hi => by
        obtain ⟨hil, rfl⟩ := hget i t hi
        exact (hFF i hil).1)
      (fun i t hi => by
        obtain ⟨hil, rfl⟩ := hget i t hi
        exact (hFF i hil).2.1)
    rwa [hlen] at this

set_option maxRecDepth 100000 in
/-- A term that came in. -/
theorem term_open {H : Type} {enc : TypeId × Value → H} {W : World} {base : Nat} {v : Value} {d : DataW H} {p : List MemPlace} (hv : Value.okWide Try.prog W .any base 71 v) (h : DataW.Trod enc Try.prog W 0 (fun _ => true) true 71 v d p) :
    ∃ (t : Tm) (sb sr : Value), v = tmv sb t.kind t.idx sr ∧ Holds W okT t.binds sb ∧ HoldsT W okT t.args sr ∧ t.idx ≤ 9223372036854775807 ∧ -9223372036854775808 ≤ t.idx := by
  obtain ⟨cs, rfl, hcs⟩ := okWide_struct Try.underlying71 hv
  rw [cells27Q] at hcs
  obtain ⟨v0, v1, v2, v3, rfl⟩ : ∃ v0 v1 v2 v3, cs = #[v0, v1, v2, v3] := ⟨cs[0], cs[1], cs[2], cs[3], by
    apply Array.ext
    · exact hcs
    · intro i h1 h2
      match i, h2 with
      | 0, _ => rfl
      | 1, _ => rfl
      | 2, _ => rfl
      | 3, _ => rfl⟩
  clear hv hcs
  obtain ⟨m, hm⟩ := h
  change DataW.trod enc Try.prog W 0 (fun _ => true) true m 71 [v0, v1, v2, v3] = _ at hm
  obtain ⟨m', k, i, bs, y, _, e1, e2, h1, h2, hbs, t3⟩ := term_cells hm
  obtain ⟨ts, sl, e3, hts⟩ := terms_open m' _ _ t3
  simp only [List.cons.injEq, and_true] at e3
  subst e1 e2 e3
  exact ⟨.mk bs k i ts, v0, v3, rfl, hbs, hts, h2, h1⟩

set_option maxRecDepth 100000 in
/-- A head that came in. -/
theorem head_open {H : Type} {enc : TypeId × Value → H} {W : World} {base : Nat} {v : Value} {d : DataW H} {p : List MemPlace} (hv' : Value.okWide Try.prog W .any base 68 v) (h : DataW.Trod enc Try.prog W 0 (fun _ => true) true 68 v d p) :
    ∃ k i : Int, v = hv k i ∧ -9223372036854775808 ≤ i ∧ i ≤ 9223372036854775807 := by
  obtain ⟨cs, rfl, hcs⟩ := okWide_struct Try.underlying68 hv'
  rw [cells24Q] at hcs
  obtain ⟨v0, v1, rfl⟩ : ∃ v0 v1, cs = #[v0, v1] := ⟨cs[0], cs[1], by
    apply Array.ext
    · exact hcs
    · intro i h1 h2
      match i, h2 with
      | 0, _ => rfl
      | 1, _ => rfl⟩
  obtain ⟨m, hm⟩ := h
  change DataW.trod enc Try.prog W 0 (fun _ => true) true m 68 [v0, v1] = _ at hm
  obtain ⟨k, i, rfl, rfl, h1, h2⟩ := head_trod hm
  exact ⟨k, i, rfl, h1, h2⟩

end Go.Proofs.Ytckagmagjogmnaa

/-
  Terms that came in: what their cells hold, and that their heads' numbers fit an int.
-/
namespace Go.Proofs.Ytckagmagjogmnaa
open Go Go.ChangeShapes Go.WideShapes Go.ChangeAt Go.RowKit Go.Joins

/-- A head that came in. -/
theorem head_trodR {H : Type} {enc : TypeId × Value → H} {W : World} {held : Bool} {n : Nat} {v0 v1 : Value} {x : DataW H × List MemPlace} (h : DataW.trod enc Try.prog W 0 (fun _ => true) held n 68 [v0, v1] = some x) :
    ∃ k i : Int, v0 = .int .i64 k ∧ v1 = .int .i64 i ∧ fits k ∧ fits i := by
  obtain ⟨y0, y1, m', _, _, t0, t1⟩ := trod_struct2 Try.underlying68 h
  change DataW.trod enc Try.prog W 0 (fun _ => true) held m' 3 (List.take (Try.prog.cellsOf 3) (List.drop 0 [v0, v1])) = some y0 at t0
  change DataW.trod enc Try.prog W 0 (fun _ => true) held m' 3 (List.take (Try.prog.cellsOf 3) (List.drop 1 [v0, v1])) = some y1 at t1
  simp only [List.drop_zero, List.drop_succ_cons, cells3, List.take_succ_cons, List.take_zero] at t0 t1
  obtain ⟨k, e0, _, hwk⟩ := DataW.trod_int Try.underlying3 t0
  obtain ⟨i, e1, _, hwf⟩ := DataW.trod_int Try.underlying3 t1
  simp only [List.cons.injEq, and_true] at e0 e1
  exact ⟨k, i, e0, e1, int_range hwk, int_range hwf⟩

theorem term_cellsR {H : Type} {enc : TypeId × Value → H} {W : World} {held : Bool} {n : Nat} {v0 v1 v2 v3 : Value} {x : DataW H × List MemPlace} (h : DataW.trod enc Try.prog W 0 (fun _ => true) held n 71 [v0, v1, v2, v3] = some x) :
    ∃ (m : Nat) (k i : Int) (bs : List Ty) (y : DataW H × List MemPlace), m < n ∧ v1 = .int .i64 k ∧ v2 = .int .i64 i ∧ fits k ∧ fits i ∧ Holds W okT bs v0 ∧ DataW.trod enc Try.prog W 0 (fun _ => true) held m 69 [v3] = some y := by
  obtain ⟨xs, m', hm', _, _, hxl, hf⟩ := DataW.trod_struct Try.underlying71 h
  obtain ⟨y0, hy0⟩ : ∃ y0, xs[0]? = some y0 := ⟨_, List.getElem?_eq_getElem (by rw [hxl]; decide)⟩
  obtain ⟨y1, hy1⟩ : ∃ y1, xs[1]? = some y1 := ⟨_, List.getElem?_eq_getElem (by rw [hxl]; decide)⟩
  obtain ⟨y2, hy2⟩ : ∃ y2, xs[2]? = some y2 := ⟨_, List.getElem?_eq_getElem (by rw [hxl]; decide)⟩
  have t0 := hf 0 _ rfl
  have t1 := hf 1 _ rfl
  have t2 := hf 2 _ rfl
  rw [hy0] at t0
  rw [hy1] at t1
  rw [hy2] at t2
  change DataW.trod enc Try.prog W 0 (fun _ => true) held m' 22 (List.take (Try.prog.cellsOf 22) (List.drop 0 [v0, v1, v2, v3])) = some y0 at t0
  change DataW.trod enc Try.prog W 0 (fun _ => true) held m' 68 (List.take (Try.prog.cellsOf 68) (List.drop 1 [v0, v1, v2, v3])) = some y1 at t1
  change DataW.trod enc Try.prog W 0 (fun _ => true) held m' 69 (List.take (Try.prog.cellsOf 69) (List.drop 3 [v0, v1, v2, v3])) = some y2 at t2
  simp only [List.drop_zero, List.drop_succ_cons, cells22, cells24Q, cells25Q, List.take_succ_cons, List.take_zero] at t0 t1 t2
  obtain ⟨bs, sl, e0, hbs⟩ := types_open m' _ _ t0
  obtain ⟨k, i, e1, e2, h1, h2⟩ := head_trodR t1
  simp only [List.cons.injEq, and_true] at e0
  subst e0
  exact ⟨m', k, i, bs, y2, by omega, e1, e2, h1, h2, hbs, t2⟩

theorem terms_openR {H : Type} {enc : TypeId × Value → H} {W : World} {held : Bool} (n : Nat) : ∀ (cs : List Value) (x : DataW H × List MemPlace), DataW.trod enc Try.prog W 0 (fun _ => true) held n 69 cs = some x →
    ∃ (ts : List Tm) (sl : Value), cs = [sl] ∧ HoldsT W okT ts sl ∧ rngT ts := by
  induction n using Nat.strongRecOn with
  | _ n ih =>
  intro cs x h
  rcases DataW.trod_slice Try.underlying69 h with ⟨hcs, _⟩ | ⟨a, len, cap, elems, rest, m, hm, hcs, _, _, hl, hcm, hel, hall, _⟩
  · exact ⟨[], .slice none 0 0, hcs, HoldsT.nil _ _ _ _ (fun _ => rfl), trivial⟩
  · rw [cells27Q] at hall
    have hF : ∀ i, i < len → ∃ z : Tc, (Holds W okT z.t.binds z.sb ∧ z.t.rng) ∧ HoldsT W okT z.t.args z.sr ∧ ∀ j, j < 4 → W.cell? ((a.add (i * 4)).add j) = ([z.sb, .int .i64 z.t.kind, .int .i64 z.t.idx, z.sr] : List Value)[j]? := fun i hi => by
      have h1 := hall i hi
      obtain ⟨y, hy⟩ : ∃ y, elems[i]? = some y := ⟨_, List.getElem?_eq_getElem (by omega)⟩
      rw [hy] at h1
      obtain ⟨cs', h2, h3⟩ := Option.bind_eq_some_iff.1 h1
      obtain ⟨_, hlen, hcell⟩ := World.cells?_some h2
      match cs', hlen with
      | [v0, v1, v2, v3], _ =>
        obtain ⟨m', k, i', bs, y', hm', e1, e2, hfk, hfi, hbs, t3⟩ := term_cellsR h3
        obtain ⟨ts', sl', e3, hts, hrt⟩ := ih m' (by omega) _ _ t3
        simp only [List.cons.injEq, and_true] at e3
        subst e1 e2 e3
        exact ⟨⟨v0, v3, .mk bs k i' ts'⟩, ⟨hbs, ⟨hfk, hfi⟩, hrt⟩, hts, fun j hj => hcell j hj⟩
    obtain ⟨F, hFF⟩ := @Deep.choose_lt Tc ⟨⟨.slice none 0 0, .slice none 0 0, .mk [] 0 0 []⟩⟩ len _ hF
    refine ⟨(List.range len).map (fun i => (F i).t), .slice (some a) len cap, hcs, ?_, ?_⟩
    rotate_left
    · rw [rngT_iff]
      intro t ht
      obtain ⟨q, hq, rfl⟩ := List.mem_map.1 ht
      exact (hFF q (by simpa using hq)).1.2
    have hget : ∀ i t, ((List.range len).map (fun i => (F i).t))[i]? = some t → i < len ∧ t = (F i).t := by
      intro i t hi
      rw [List.getElem?_map] at hi
      obtain ⟨j, hj, rfl⟩ := Option.map_eq_some_iff.1 hi
      obtain ⟨hjl, hj2⟩ := List.getElem?_eq_some_iff.1 hj
      rw [List.getElem_range] at hj2
      subst hj2
      exact ⟨by simpa using hjl, rfl⟩
    have hlen : ((List.range len).map (fun i => (F i).t)).length = len := by simp
    have hsp : ∀ i, i < len → a.spot = none := fun i hi => by
      have c := (hFF 0 (by omega)).2.2 0 (by omega)
      obtain ⟨b, off, spot⟩ := a
      have c' : W.cell? ⟨b, off, spot⟩ = some (F 0).sb := by simpa [Addr.add] using c
      exact World.cell?_spot c'
    have := HoldsT.mk (w := W) (ok := okT) ((List.range len).map (fun i => (F i).t)) (some a) cap (fun i => (F i).sb) (fun i => (F i).sr) (by rw [hlen]; exact hl) (fun h => by cases h)
      (fun i t hi => by
        obtain ⟨hil, rfl⟩ := hget i t hi
        have c := (hFF i hil).2.2
        have hs := hsp i hil
        obtain ⟨b, off, spot⟩ := a
        simp only at hs
        subst hs
        have c0 := c 0 (by omega)
        have c1 := c 1 (by omega)
        have c2 := c 2 (by omega)
        have c3 := c 3 (by omega)
        rw [add_plain, add_plain] at c0 c1 c2 c3
        exact ⟨b, off, rfl, trivial, c0, c1, c2, c3⟩)
      (fun i t hi => by
        obtain ⟨hil, rfl⟩ := hget i t hi
        exact (hFF i hil).1.1)
      (fun i t hi => by
        obtain ⟨hil, rfl⟩ := hget i t hi
        exact (hFF i hil).2.1)
    rwa [hlen] at this

set_option maxRecDepth 100000 in
/-- A term that came in. -/
theorem term_openR {H : Type} {enc : TypeId × Value → H} {W : World} {base : Nat} {v : Value} {d : DataW H} {p : List MemPlace} (hv : Value.okWide Try.prog W .any base 71 v) (h : DataW.Trod enc Try.prog W 0 (fun _ => true) true 71 v d p) :
    ∃ (t : Tm) (sb sr : Value), v = tmv sb t.kind t.idx sr ∧ Holds W okT t.binds sb ∧ HoldsT W okT t.args sr ∧ t.rng := by
  obtain ⟨cs, rfl, hcs⟩ := okWide_struct Try.underlying71 hv
  rw [cells27Q] at hcs
  obtain ⟨v0, v1, v2, v3, rfl⟩ : ∃ v0 v1 v2 v3, cs = #[v0, v1, v2, v3] := ⟨cs[0], cs[1], cs[2], cs[3], by
    apply Array.ext
    · exact hcs
    · intro i h1 h2
      match i, h2 with
      | 0, _ => rfl
      | 1, _ => rfl
      | 2, _ => rfl
      | 3, _ => rfl⟩
  clear hv hcs
  obtain ⟨m, hm⟩ := h
  change DataW.trod enc Try.prog W 0 (fun _ => true) true m 71 [v0, v1, v2, v3] = _ at hm
  obtain ⟨m', k, i, bs, y, _, e1, e2, h1, h2, hbs, t3⟩ := term_cellsR hm
  obtain ⟨ts, sl, e3, hts, hrt⟩ := terms_openR m' _ _ t3
  simp only [List.cons.injEq, and_true] at e3
  subst e1 e2 e3
  exact ⟨.mk bs k i ts, v0, v3, rfl, hbs, hts, ⟨h1, h2⟩, hrt⟩

end Go.Proofs.Ytckagmagjogmnaa
