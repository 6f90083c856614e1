/-
  WOpen: several texts in one file: RawOpen, WOpen.
-/
import Derived.Test.YtckagmagjogmnaaLooseR
import Derived.Test.YtckagmagjogmnaaRows
import Derived.Test.YtckagmagjogmnaaHdTy
import Derived.Test.YtckagmagjogmnaaHoldR
import Derived.ProofKit
import Derived.OpenShut
import Derived.ShutString
import Derived.ChangeOld
import Derived.Below
import Derived.Carry
import Derived.Lib.SmallJoins
import Derived.Deep.Slices
import Derived.Deep.Strs
import Derived.Test.YtckagmagjogmnaaHeadC
namespace Go.Proofs.Ytckagmagjogmnaa
open Go Go.ChangeShapes Go.WideShapes Go.ChangeAt Go.RowKit Go.Joins

theorem own : ownKnob Try.prog.godebug = none := by kernel_rfl
theorem laidOut : laidOutB Try.prog = true := by kernel_rfl
theorem cells24 : Try.prog.cellsOf 24 = 2 := by kernel_rfl
theorem cells22 : Try.prog.cellsOf 22 = 1 := by kernel_rfl
theorem cells3 : Try.prog.cellsOf 3 = 1 := by kernel_rfl
theorem cells25 : Try.prog.cellsOf 25 = 1 := by kernel_rfl
theorem cells27 : Try.prog.cellsOf 27 = 5 := by kernel_rfl

theorem types_open {H : Type} {enc : TypeId × Value → H} {W : World} {held : Bool} (n : Nat) : ∀ (cs : List Value) (x : DataW H × List MemPlace), DataW.trod enc Try.prog W 0 (fun _ => true) held n 22 cs = some x →
    ∃ (ts : List Ty) (sl : Value), cs = [sl] ∧ Holds W okT ts sl := by
  induction n using Nat.strongRecOn with
  | _ n ih =>
  intro cs x h
  rcases DataW.trod_slice Try.underlying22 h with ⟨hcs, _⟩ | ⟨a, len, cap, elems, rest, m, hm, hcs, _, _, hl, hcm, hel, hall, _⟩
  · exact ⟨[], .slice none 0 0, hcs, Holds.nil _ _ _ _ (fun _ => rfl)⟩
  · rw [cells24] at hall
    have hF : ∀ i, i < len → ∃ z : Ty × Value, Holds W okT z.1.args z.2 ∧ ∀ j, j < 2 → W.cell? ((a.add (i * 2)).add j) = ([z.2, .int .i64 z.1.base] : List Value)[j]? := fun i hi => by
      have h1 := hall i hi
      obtain ⟨y, hy⟩ : ∃ y, elems[i]? = some y := ⟨_, List.getElem?_eq_getElem (by omega)⟩
      rw [hy] at h1
      obtain ⟨cs', h2, h3⟩ := Option.bind_eq_some_iff.1 h1
      obtain ⟨_, hlen, hcell⟩ := World.cells?_some h2
      match cs', hlen with
      | [v0, v1], _ =>
        obtain ⟨xs, m', hm', _, _, hxl, hf⟩ := DataW.trod_struct Try.underlying24 h3
        obtain ⟨y0, hy0⟩ : ∃ y0, xs[0]? = some y0 := ⟨_, List.getElem?_eq_getElem (by rw [hxl]; decide)⟩
        obtain ⟨y1, hy1⟩ : ∃ y1, xs[1]? = some y1 := ⟨_, List.getElem?_eq_getElem (by rw [hxl]; decide)⟩
        have t0 := hf 0 _ rfl
        have t1 := hf 1 _ rfl
        rw [hy0] at t0
        rw [hy1] at t1
        change DataW.trod enc Try.prog W 0 (fun _ => true) held m' 22 (List.take (Try.prog.cellsOf 22) (List.drop 0 [v0, v1])) = some y0 at t0
        change DataW.trod enc Try.prog W 0 (fun _ => true) held m' 3 (List.take (Try.prog.cellsOf 3) (List.drop 1 [v0, v1])) = some y1 at t1
        simp only [List.drop_zero, List.drop_succ_cons, cells3, cells22, List.take_succ_cons, List.take_zero] at t0 t1
        obtain ⟨b, e1, _, _⟩ := DataW.trod_int Try.underlying3 t1
        obtain ⟨ts', sl', e0, hts⟩ := ih m' (by omega) _ _ t0
        simp only [List.cons.injEq, and_true] at e0 e1
        subst e0 e1
        exact ⟨(.mk ts' b, v0), hts, fun j hj => hcell j hj⟩
    obtain ⟨F, hFF⟩ := @Deep.choose_lt (Ty × Value) ⟨(.mk [] 0, .slice none 0 0)⟩ len _ hF
    refine ⟨(List.range len).map (fun i => (F i).1), .slice (some a) len cap, hcs, ?_⟩
    have hget : ∀ i t, ((List.range len).map (fun i => (F i).1))[i]? = some t → i < len ∧ t = (F i).1 := by
      intro i t hi
      rw [List.getElem?_map] at hi
      obtain ⟨j, hj, rfl⟩ := Option.map_eq_some_iff.1 hi
      obtain ⟨hjl, hj2⟩ := List.getElem?_eq_some_iff.1 hj
      rw [List.getElem_range] at hj2
      subst hj2
      exact ⟨by simpa using hjl, rfl⟩
    have hlen : ((List.range len).map (fun i => (F i).1)).length = len := by simp
    have hsp : ∀ i, i < len → a.spot = none := fun i hi => by
      have c := (hFF 0 (by omega)).2 0 (by omega)
      obtain ⟨b, off, spot⟩ := a
      have c' : W.cell? ⟨b, off, spot⟩ = some (F 0).2 := by simpa [Addr.add] using c
      exact World.cell?_spot c'
    have := Holds.mk (w := W) (ok := okT) ((List.range len).map (fun i => (F i).1)) (some a) cap (fun i => (F i).2) (by rw [hlen]; exact hl) (fun h => by cases h)
      (fun i t hi => by
        obtain ⟨hil, rfl⟩ := hget i t hi
        have c := (hFF i hil).2
        have hs := hsp i hil
        obtain ⟨b, off, spot⟩ := a
        simp only at hs
        subst hs
        have c0 := c 0 (by omega)
        have c1 := c 1 (by omega)
        rw [add_plain, add_plain] at c0 c1
        exact ⟨b, off, rfl, trivial, c0, c1⟩)
      (fun i t hi => by
        obtain ⟨hil, rfl⟩ := hget i t hi
        exact (hFF i hil).1)
    rwa [hlen] at this

set_option maxRecDepth 100000 in
/-- A type that came in. -/
theorem type_open {H : Type} {enc : TypeId × Value → H} {W : World} {base : Nat} {v : Value} {d : DataW H} {p : List MemPlace} (hv : Value.okWide Try.prog W .any base 24 v) (h : DataW.Trod enc Try.prog W 0 (fun _ => true) true 24 v d p) :
    ∃ (t : Ty) (sl : Value), v = tv sl t.base ∧ Holds W okT t.args sl := by
  obtain ⟨cs, rfl, hcs⟩ := okWide_struct Try.underlying24 hv
  rw [cells24] at hcs
  obtain ⟨v0, v1, rfl⟩ : ∃ v0 v1, cs = #[v0, v1] := ⟨cs[0], cs[1], by
    apply Array.ext
    · exact hcs
    · intro i h1 h2
      match i, h2 with
      | 0, _ => rfl
      | 1, _ => rfl⟩
  clear hv hcs
  · obtain ⟨m, hm⟩ := h
    change DataW.trod enc Try.prog W 0 (fun _ => true) true m 24 [v0, v1] = _ at hm
    obtain ⟨y0, y1, m', _, _, t0, t1⟩ := trod_struct2 Try.underlying24 hm
    change DataW.trod enc Try.prog W 0 (fun _ => true) true m' 22 (List.take (Try.prog.cellsOf 22) (List.drop 0 [v0, v1])) = some y0 at t0
    change DataW.trod enc Try.prog W 0 (fun _ => true) true m' 3 (List.take (Try.prog.cellsOf 3) (List.drop 1 [v0, v1])) = some y1 at t1
    simp only [List.drop_zero, List.drop_succ_cons, cells3, cells22, List.take_succ_cons, List.take_zero] at t0 t1
    obtain ⟨b, e1, _, _⟩ := DataW.trod_int Try.underlying3 t1
    obtain ⟨ts', sl', e0, hts⟩ := types_open m' _ _ t0
    simp only [List.cons.injEq, and_true] at e0 e1
    subst e0 e1
    exact ⟨.mk ts' b, v0, rfl, hts⟩
/-- A list of types that came in. -/
theorem list_open {H : Type} {enc : TypeId × Value → H} {W : World} {v : Value} {d : DataW H} {p : List MemPlace} (hv : ∃ a n c, v = .slice a n c) (h : DataW.Trod enc Try.prog W 0 (fun _ => true) true 22 v d p) :
    ∃ ts : List Ty, Holds W okT ts v := by
  obtain ⟨a, n, c, rfl⟩ := hv
  obtain ⟨m, hm⟩ := h
  obtain ⟨ts, sl, e, hts⟩ := types_open m _ _ hm
  simp [Value.cells] at e
  subst e
  exact ⟨ts, hts⟩

/-- What a number that came in is at most, and at least. -/
theorem int_range {n : Int} (h : (Lit.int .i64 n).wf = true) : -9223372036854775808 ≤ n ∧ n ≤ 9223372036854775807 := by
  have h2 : (decide (IntKind.i64.min ≤ n) && decide (n ≤ IntKind.i64.max)) = true := h
  rw [Bool.and_eq_true] at h2
  have h3 := of_decide_eq_true h2.1
  have h4 := of_decide_eq_true h2.2
  rw [show IntKind.i64.min = -9223372036854775808 by decide] at h3
  rw [show IntKind.i64.max = 9223372036854775807 by decide] at h4
  exact ⟨h3, h4⟩


theorem raw_cells {H : Type} {enc : TypeId × Value → H} {W : World} {held : Bool} {n : Nat} {v0 v1 v2 v3 v4 : Value} {x : DataW H × List MemPlace} (h : DataW.trod enc Try.prog W 0 (fun _ => true) held n 27 [v0, v1, v2, v3, v4] = some x) :
    ∃ (m : Nat) (k i : Int) (t : Ty) (y : DataW H × List MemPlace), m < n ∧ v0 = .int .i64 k ∧ v2 = .int .i64 t.base ∧ v3 = .int .i64 i ∧ (-9223372036854775808 ≤ k ∧ k ≤ 9223372036854775807) ∧ (-9223372036854775808 ≤ i ∧ i ≤ 9223372036854775807) ∧ Holds W okT t.args v1 ∧ DataW.trod enc Try.prog W 0 (fun _ => true) held m 25 [v4] = some y := by
  obtain ⟨xs, m', hm', _, _, hxl, hf⟩ := DataW.trod_struct Try.underlying27 h
  obtain ⟨y0, hy0⟩ : ∃ y0, xs[0]? = some y0 := ⟨_, List.getElem?_eq_getElem (by rw [hxl]; decide)⟩
  obtain ⟨y1, hy1⟩ : ∃ y1, xs[1]? = some y1 := ⟨_, List.getElem?_eq_getElem (by rw [hxl]; decide)⟩
  obtain ⟨y2, hy2⟩ : ∃ y2, xs[2]? = some y2 := ⟨_, List.getElem?_eq_getElem (by rw [hxl]; decide)⟩
  obtain ⟨y3, hy3⟩ : ∃ y3, xs[3]? = some y3 := ⟨_, List.getElem?_eq_getElem (by rw [hxl]; decide)⟩
  have t0 := hf 0 _ rfl
  have t1 := hf 1 _ rfl
  have t2 := hf 2 _ rfl
  have t3 := hf 3 _ rfl
  rw [hy0] at t0
  rw [hy1] at t1
  rw [hy2] at t2
  rw [hy3] at t3
  change DataW.trod enc Try.prog W 0 (fun _ => true) held m' 3 (List.take (Try.prog.cellsOf 3) (List.drop 0 [v0, v1, v2, v3, v4])) = some y0 at t0
  change DataW.trod enc Try.prog W 0 (fun _ => true) held m' 24 (List.take (Try.prog.cellsOf 24) (List.drop 1 [v0, v1, v2, v3, v4])) = some y1 at t1
  change DataW.trod enc Try.prog W 0 (fun _ => true) held m' 3 (List.take (Try.prog.cellsOf 3) (List.drop 3 [v0, v1, v2, v3, v4])) = some y2 at t2
  change DataW.trod enc Try.prog W 0 (fun _ => true) held m' 25 (List.take (Try.prog.cellsOf 25) (List.drop 4 [v0, v1, v2, v3, v4])) = some y3 at t3
  simp only [List.drop_zero, List.drop_succ_cons, cells3, cells24, cells25, List.take_succ_cons, List.take_zero] at t0 t1 t2 t3
  obtain ⟨k, e0, _, hwk⟩ := DataW.trod_int Try.underlying3 t0
  obtain ⟨i, e3, _, hwi⟩ := DataW.trod_int Try.underlying3 t2
  obtain ⟨z0, z1, m9, hm9, _, s0, s1⟩ := trod_struct2 Try.underlying24 t1
  change DataW.trod enc Try.prog W 0 (fun _ => true) held m9 22 (List.take (Try.prog.cellsOf 22) (List.drop 0 [v1, v2])) = some z0 at s0
  change DataW.trod enc Try.prog W 0 (fun _ => true) held m9 3 (List.take (Try.prog.cellsOf 3) (List.drop 1 [v1, v2])) = some z1 at s1
  simp only [List.drop_zero, List.drop_succ_cons, cells3, cells22, List.take_succ_cons, List.take_zero] at s0 s1
  obtain ⟨b, e2, _, _⟩ := DataW.trod_int Try.underlying3 s1
  obtain ⟨ts', sl', e1, hts⟩ := types_open m9 _ _ s0
  simp only [List.cons.injEq, and_true] at e0 e1 e2 e3
  subst e1
  exact ⟨m', k, i, .mk ts' b, y3, by omega, e0, e2, e3, int_range hwk, int_range hwi, hts, t3⟩

structure Rcell where
  sb : Value
  sr : Value
  t : Rw
theorem raws_open {H : Type} {enc : TypeId × Value → H} {W : World} {held : Bool} (n : Nat) : ∀ (cs : List Value) (x : DataW H × List MemPlace), DataW.trod enc Try.prog W 0 (fun _ => true) held n 25 cs = some x →
    ∃ (ts : List Rw) (sl : Value), cs = [sl] ∧ HoldsR W okT ts sl ∧ rngR ts := by
  induction n using Nat.strongRecOn with
  | _ n ih =>
  intro cs x h
  rcases DataW.trod_slice Try.underlying25 h with ⟨hcs, _⟩ | ⟨a, len, cap, elems, rest, m, hm, hcs, _, _, hl, hcm, hel, hall, _⟩
  · exact ⟨[], .slice none 0 0, hcs, HoldsR.nil _ _ _ _ (fun _ => rfl), trivial⟩
  · rw [cells27] at hall
    have hF : ∀ i, i < len → ∃ z : Rcell, (Holds W okT z.t.ty.args z.sb ∧ z.t.rng) ∧ HoldsR W okT z.t.kids z.sr ∧ ∀ j, j < 5 → W.cell? ((a.add (i * 5)).add j) = ([.int .i64 z.t.kind, z.sb, .int .i64 z.t.ty.base, .int .i64 z.t.idx, z.sr] : List Value)[j]? := fun i hi => by
      have h1 := hall i hi
      obtain ⟨y, hy⟩ : ∃ y, elems[i]? = some y := ⟨_, List.getElem?_eq_getElem (by omega)⟩
      rw [hy] at h1
      obtain ⟨cs', h2, h3⟩ := Option.bind_eq_some_iff.1 h1
      obtain ⟨_, hlen, hcell⟩ := World.cells?_some h2
      match cs', hlen with
      | [v0, v1, v2, v3, v4], _ =>
        obtain ⟨m', k, i', t, y', hm', e0, e2, e3, hfk, hfi, hts, t4⟩ := raw_cells h3
        obtain ⟨ts', sl', e4, hts', hrt⟩ := ih m' (by omega) _ _ t4
        simp only [List.cons.injEq, and_true] at e4
        subst e0 e2 e3 e4
        exact ⟨⟨v1, v4, .mk k t i' ts'⟩, ⟨hts, hfk, hfi, hrt⟩, hts', fun j hj => hcell j hj⟩
    obtain ⟨F, hFF⟩ := @Deep.choose_lt Rcell ⟨⟨.slice none 0 0, .slice none 0 0, .mk 0 (.mk [] 0) 0 []⟩⟩ len _ hF
    refine ⟨(List.range len).map (fun i => (F i).t), .slice (some a) len cap, hcs, ?_, ?_⟩
    rotate_left
    · rw [rngR_iff]
      intro t ht
      obtain ⟨q, hq, rfl⟩ := List.mem_map.1 ht
      exact (hFF q (by simpa using hq)).1.2
    have hget : ∀ i t, ((List.range len).map (fun i => (F i).t))[i]? = some t → i < len ∧ t = (F i).t := by
      intro i t hi
      rw [List.getElem?_map] at hi
      obtain ⟨j, hj, rfl⟩ := Option.map_eq_some_iff.1 hi
      obtain ⟨hjl, hj2⟩ := List.getElem?_eq_some_iff.1 hj
      rw [List.getElem_range] at hj2
      subst hj2
      exact ⟨by simpa using hjl, rfl⟩
    have hlen : ((List.range len).map (fun i => (F i).t)).length = len := by simp
    have hsp : ∀ i, i < len → a.spot = none := fun i hi => by
      have c := (hFF 0 (by omega)).2.2 0 (by omega)
      obtain ⟨b, off, spot⟩ := a
      have c' : W.cell? ⟨b, off, spot⟩ = some (.int .i64 (F 0).t.kind) := by simpa [Addr.add] using c
      exact World.cell?_spot c'
    have := HoldsR.mk (w := W) (ok := okT) ((List.range len).map (fun i => (F i).t)) (some a) cap (fun i => (F i).sb) (fun i => (F i).sr) (by rw [hlen]; exact hl) (fun h => by cases h)
      (fun i t hi => by
        obtain ⟨hil, rfl⟩ := hget i t hi
        have c := (hFF i hil).2.2
        have hs := hsp i hil
        obtain ⟨b, off, spot⟩ := a
        simp only at hs
        subst hs
        have c0 := c 0 (by omega)
        have c1 := c 1 (by omega)
        have c2 := c 2 (by omega)
        have c3 := c 3 (by omega)
        have c4 := c 4 (by omega)
        rw [add_plain, add_plain] at c0 c1 c2 c3 c4
        exact ⟨b, off, rfl, trivial, c0, c1, c2, c3, c4⟩)
      (fun i t hi => by
        obtain ⟨hil, rfl⟩ := hget i t hi
        exact (hFF i hil).1.1)
      (fun i t hi => by
        obtain ⟨hil, rfl⟩ := hget i t hi
        exact (hFF i hil).2.1)
    rwa [hlen] at this

set_option maxRecDepth 100000 in
/-- A raw term that came in. -/
theorem raw_openR {H : Type} {enc : TypeId × Value → H} {W : World} {base : Nat} {v : Value} {d : DataW H} {p : List MemPlace} (hv : Value.okWide Try.prog W .any base 27 v) (h : DataW.Trod enc Try.prog W 0 (fun _ => true) true 27 v d p) :
    ∃ (t : Rw) (sb sr : Value), v = rwv t.kind sb t.ty.base t.idx sr ∧ Holds W okT t.ty.args sb ∧ HoldsR W okT t.kids sr ∧ t.rng := by
  obtain ⟨cs, rfl, hcs⟩ := okWide_struct Try.underlying27 hv
  rw [cells27] at hcs
  obtain ⟨v0, v1, v2, v3, v4, rfl⟩ : ∃ v0 v1 v2 v3 v4, cs = #[v0, v1, v2, v3, v4] := ⟨cs[0], cs[1], cs[2], cs[3], cs[4], by
    apply Array.ext
    · exact hcs
    · intro i h1 h2
      match i, h2 with
      | 0, _ => rfl
      | 1, _ => rfl
      | 2, _ => rfl
      | 3, _ => rfl
      | 4, _ => rfl⟩
  clear hv hcs
  obtain ⟨m, hm⟩ := h
  change DataW.trod enc Try.prog W 0 (fun _ => true) true m 27 [v0, v1, v2, v3, v4] = _ at hm
  obtain ⟨m', k, i, t, y, _, e0, e2, e3, h1, h2, hts, t4⟩ := raw_cells hm
  obtain ⟨ts, sl, e4, hkids, hrt⟩ := raws_open m' _ _ t4
  simp only [List.cons.injEq, and_true] at e4
  subst e0 e2 e3 e4
  exact ⟨.mk k t i ts, v1, v4, rfl, hts, hkids, h1, h2, hrt⟩

end Go.Proofs.Ytckagmagjogmnaa

namespace Go.Proofs.Ytckagmagjogmnaa
open Go Go.ChangeShapes Go.WideShapes Go.ChangeAt Go.RowKit Go.Joins

theorem cells47 : Try.prog.cellsOf 47 = 3 := by kernel_rfl

set_option maxRecDepth 100000 in
theorem world_open {H : Type} {enc : TypeId × Value → H} {W : World} {base : Nat} {v : Value} {d : DataW H} {p : List MemPlace} (hv : Value.okWide Try.prog W .any base 47 v) (h : DataW.Trod enc Try.prog W 0 (fun _ => true) true 47 v d p) :
    ∃ (bs : Int) (cs ms : List Ty) (c m : Value), v = wov bs c m ∧ Holds W okT cs c ∧ Holds W okT ms m := by
  obtain ⟨cs, rfl, hcs⟩ := okWide_struct Try.underlying47 hv
  rw [cells47] at hcs
  obtain ⟨v0, v1, v2, rfl⟩ : ∃ v0 v1 v2, cs = #[v0, v1, v2] := ⟨cs[0], cs[1], cs[2], by
    apply Array.ext
    · exact hcs
    · intro i h1 h2
      match i, h2 with
      | 0, _ => rfl
      | 1, _ => rfl
      | 2, _ => rfl⟩
  clear hv hcs
  obtain ⟨m, hm⟩ := h
  change DataW.trod enc Try.prog W 0 (fun _ => true) true m 47 [v0, v1, v2] = _ at hm
  obtain ⟨xs, m', _, _, _, hxl, hf⟩ := DataW.trod_struct Try.underlying47 hm
  obtain ⟨y0, hy0⟩ : ∃ y0, xs[0]? = some y0 := ⟨_, List.getElem?_eq_getElem (by rw [hxl]; decide)⟩
  obtain ⟨y1, hy1⟩ : ∃ y1, xs[1]? = some y1 := ⟨_, List.getElem?_eq_getElem (by rw [hxl]; decide)⟩
  obtain ⟨y2, hy2⟩ : ∃ y2, xs[2]? = some y2 := ⟨_, List.getElem?_eq_getElem (by rw [hxl]; decide)⟩
  have t0 := hf 0 _ rfl
  have t1 := hf 1 _ rfl
  have t2 := hf 2 _ rfl
  rw [hy0] at t0
  rw [hy1] at t1
  rw [hy2] at t2
  change DataW.trod enc Try.prog W 0 (fun _ => true) true m' 3 (List.take (Try.prog.cellsOf 3) (List.drop 0 [v0, v1, v2])) = some y0 at t0
  change DataW.trod enc Try.prog W 0 (fun _ => true) true m' 22 (List.take (Try.prog.cellsOf 22) (List.drop 1 [v0, v1, v2])) = some y1 at t1
  change DataW.trod enc Try.prog W 0 (fun _ => true) true m' 22 (List.take (Try.prog.cellsOf 22) (List.drop 2 [v0, v1, v2])) = some y2 at t2
  simp only [List.drop_zero, List.drop_succ_cons, cells3, cells22, List.take_succ_cons, List.take_zero] at t0 t1 t2
  obtain ⟨b, e0, _, _⟩ := DataW.trod_int Try.underlying3 t0
  obtain ⟨ts1, sl1, e1, h1⟩ := types_open m' _ _ t1
  obtain ⟨ts2, sl2, e2, h2⟩ := types_open m' _ _ t2
  simp only [List.cons.injEq, and_true] at e0 e1 e2
  subst e0 e1 e2
  exact ⟨b, ts1, ts2, v1, v2, rfl, h1, h2⟩

end Go.Proofs.Ytckagmagjogmnaa

