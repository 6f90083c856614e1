/-
  A table that came in: what its cells hold.
-/
import Derived.Test.YtdihplmlbfggjaaGreatDoorFrame
import Derived.Deep.Slices
namespace Go.Proofs.YtdihplmlbfggjaaGreatDoor
open Go Go.ChangeShapes Go.WideShapes Go.ChangeAt Go.RowKit Go.Joins

theorem cells64 : Tryz.prog.cellsOf 49 = 2 := by kernel_rfl
theorem cells62 : Tryz.prog.cellsOf 47 = 1 := by kernel_rfl
theorem cells3 : Tryz.prog.cellsOf 3 = 1 := by kernel_rfl
theorem cells9 : Tryz.prog.cellsOf 9 = 1 := by kernel_rfl
theorem cells22 : Tryz.prog.cellsOf 22 = 1 := by kernel_rfl
theorem cells23 : Tryz.prog.cellsOf 23 = 1 := by kernel_rfl
theorem cells66 : Tryz.prog.cellsOf 51 = 3 := by kernel_rfl
theorem cells25 : Tryz.prog.cellsOf 25 = 2 := by kernel_rfl

theorem types_open {H : Type} {enc : TypeId × Value → H} {W : World} {held : Bool} (n : Nat) : ∀ (cs : List Value) (x : DataW H × List MemPlace), DataW.trod enc Tryz.prog W 0 (fun _ => true) held n 47 cs = some x →
    ∃ (ts : List Ty) (sl : Value), cs = [sl] ∧ Holds W okT ts sl := by
  induction n using Nat.strongRecOn with
  | _ n ih =>
  intro cs x h
  rcases DataW.trod_slice Tryz.underlying47 h with ⟨hcs, _⟩ | ⟨a, len, cap, elems, rest, m, hm, hcs, _, _, hl, hcm, hel, hall, _⟩
  · exact ⟨[], .slice none 0 0, hcs, Holds.nil _ _ _ _ (fun _ => rfl)⟩
  · rw [cells64] at hall
    have hF : ∀ i, i < len → ∃ z : Ty × Value, Holds W okT z.1.args z.2 ∧ ∀ j, j < 2 → W.cell? ((a.add (i * 2)).add j) = ([z.2, .int .i64 z.1.base] : List Value)[j]? := fun i hi => by
      have h1 := hall i hi
      obtain ⟨y, hy⟩ : ∃ y, elems[i]? = some y := ⟨_, List.getElem?_eq_getElem (by omega)⟩
      rw [hy] at h1
      obtain ⟨cs', h2, h3⟩ := Option.bind_eq_some_iff.1 h1
      obtain ⟨_, hlen, hcell⟩ := World.cells?_some h2
      match cs', hlen with
      | [v0, v1], _ =>
        obtain ⟨xs, m', hm', _, _, hxl, hf⟩ := DataW.trod_struct Tryz.underlying49 h3
        obtain ⟨y0, hy0⟩ : ∃ y0, xs[0]? = some y0 := ⟨_, List.getElem?_eq_getElem (by rw [hxl]; decide)⟩
        obtain ⟨y1, hy1⟩ : ∃ y1, xs[1]? = some y1 := ⟨_, List.getElem?_eq_getElem (by rw [hxl]; decide)⟩
        have t0 := hf 0 _ rfl
        have t1 := hf 1 _ rfl
        rw [hy0] at t0
        rw [hy1] at t1
        change DataW.trod enc Tryz.prog W 0 (fun _ => true) held m' 47 (List.take (Tryz.prog.cellsOf 47) (List.drop 0 [v0, v1])) = some y0 at t0
        change DataW.trod enc Tryz.prog W 0 (fun _ => true) held m' 3 (List.take (Tryz.prog.cellsOf 3) (List.drop 1 [v0, v1])) = some y1 at t1
        simp only [List.drop_zero, List.drop_succ_cons, cells3, cells62, List.take_succ_cons, List.take_zero] at t0 t1
        obtain ⟨b, e1, _, _⟩ := DataW.trod_int Tryz.underlying3 t1
        obtain ⟨ts', sl', e0, hts⟩ := ih m' (by omega) _ _ t0
        simp only [List.cons.injEq, and_true] at e0 e1
        subst e0 e1
        exact ⟨(.mk ts' b, v0), hts, fun j hj => hcell j hj⟩
    obtain ⟨F, hFF⟩ := @Deep.choose_lt (Ty × Value) ⟨(.mk [] 0, .slice none 0 0)⟩ len _ hF
    refine ⟨(List.range len).map (fun i => (F i).1), .slice (some a) len cap, hcs, ?_⟩
    have hget : ∀ i t, ((List.range len).map (fun i => (F i).1))[i]? = some t → i < len ∧ t = (F i).1 := by
      intro i t hi
      rw [List.getElem?_map] at hi
      obtain ⟨j, hj, rfl⟩ := Option.map_eq_some_iff.1 hi
      obtain ⟨hjl, hj2⟩ := List.getElem?_eq_some_iff.1 hj
      rw [List.getElem_range] at hj2
      subst hj2
      exact ⟨by simpa using hjl, rfl⟩
    have hlen : ((List.range len).map (fun i => (F i).1)).length = len := by simp
    have hsp : ∀ i, i < len → a.spot = none := fun i hi => by
      have c := (hFF 0 (by omega)).2 0 (by omega)
      obtain ⟨b, off, spot⟩ := a
      have c' : W.cell? ⟨b, off, spot⟩ = some (F 0).2 := by simpa [Addr.add] using c
      exact World.cell?_spot c'
    have := Holds.mk (w := W) (ok := okT) ((List.range len).map (fun i => (F i).1)) (some a) cap (fun i => (F i).2) (by rw [hlen]; exact hl) (fun h => by cases h)
      (fun i t hi => by
        obtain ⟨hil, rfl⟩ := hget i t hi
        have c := (hFF i hil).2
        have hs := hsp i hil
        obtain ⟨b, off, spot⟩ := a
        simp only at hs
        subst hs
        have c0 := c 0 (by omega)
        have c1 := c 1 (by omega)
        rw [add_plain, add_plain] at c0 c1
        exact ⟨b, off, rfl, trivial, c0, c1⟩)
      (fun i t hi => by
        obtain ⟨hil, rfl⟩ := hget i t hi
        exact (hFF i hil).1)
    rwa [hlen] at this

theorem weights_mem {H : Type} {P : Program} {e : TypeId} : ∀ {l : List (DataW H)} {d : DataW H} {x : Nat}, d ∈ l → x ∈ d.weights P e → x ∈ DataW.weightsAll P e l
  | y :: l, d, x, h, hx => by
    unfold DataW.weightsAll
    rcases List.mem_cons.1 h with rfl | h
    · exact List.mem_append_left _ hx
    · exact List.mem_append_right _ (weights_mem h hx)

theorem range_get {α : Type} {len i : Nat} {F : Nat → α} {t : α} (hi : ((List.range len).map F)[i]? = some t) : i < len ∧ t = F i := by
  rw [List.getElem?_map] at hi
  obtain ⟨j, hj, rfl⟩ := Option.map_eq_some_iff.1 hi
  obtain ⟨hjl, hj2⟩ := List.getElem?_eq_some_iff.1 hj
  rw [List.getElem_range] at hj2
  subst hj2
  exact ⟨by simpa using hjl, rfl⟩

/-- Names that came in. -/
theorem strs_open {H : Type} {enc : TypeId × Value → H} {W : World} {held : Bool} {n : Nat} {cs : List Value} {x : DataW H × List MemPlace} (h : DataW.trod enc Tryz.prog W 0 (fun _ => true) held n 22 cs = some x)
    (hw : ∀ y ∈ x.1.weights Tryz.prog 22, y ≤ reachBytes) : ∃ (bs : List ByteArray) (sl : Value), cs = [sl] ∧ HoldsS W okT bs sl ∧ FitS bs := by
  rcases DataW.trod_slice Tryz.underlying22 h with ⟨hcs, _⟩ | ⟨a, len, cap, elems, rest, m, hm, hcs, hx, _, hl, hcm, hel, hall, _⟩
  · exact ⟨[], .slice none 0 0, hcs, HoldsS.nil _ _, fun s hs => by cases hs⟩
  · rw [cells9] at hall
    have hF : ∀ i, i < len → ∃ s : ByteArray, s.size ≤ 281474976710656 ∧ W.cell? (a.add i) = some (.string s) := fun i hi => by
      have h1 := hall i hi
      obtain ⟨y, hy⟩ : ∃ y, elems[i]? = some y := ⟨_, List.getElem?_eq_getElem (by omega)⟩
      rw [hy] at h1
      obtain ⟨cs', h2, h3⟩ := Option.bind_eq_some_iff.1 h1
      obtain ⟨_, hlen, hcell⟩ := World.cells?_some h2
      obtain ⟨s, e, ey, _⟩ := DataW.trod_string Tryz.underlying9 h3
      refine ⟨s, ?_, ?_⟩
      · have hmem : s.data.toList.length ∈ DataW.weightsAll Tryz.prog 9 (elems.map (·.1)) := weights_mem (List.mem_map.2 ⟨y, List.mem_of_getElem? hy, rfl⟩) (by rw [ey]; simp [DataW.weights])
        have := hw s.data.toList.length (by rw [hx]; simp only [DataW.weights, Tryz.underlying22]; exact List.mem_cons_of_mem _ (List.mem_append_left _ hmem))
        unfold reachBytes at this
        have e9 : s.size = s.data.toList.length := by simp
        omega
      · have := hcell 0 (by omega)
        rw [e, Nat.mul_one] at this
        simpa [Addr.add] using this
    obtain ⟨F, hFF⟩ := @Deep.choose_lt ByteArray ⟨⟨#[]⟩⟩ len _ hF
    refine ⟨(List.range len).map F, .slice (some a) len cap, hcs, ⟨some a, cap, by simp, by simpa using hl, (fun h => by cases h), fun i s hi => ?_⟩, fun s hs => ?_⟩
    · obtain ⟨hil, rfl⟩ := range_get hi
      have c := (hFF i hil).2
      obtain ⟨b, off, spot⟩ := a
      have hs : spot = none := by
        have c0 := (hFF 0 (by omega)).2
        have c' : W.cell? ⟨b, off, spot⟩ = some (.string (F 0)) := by simpa [Addr.add] using c0
        exact World.cell?_spot c'
      subst hs
      rw [add_plain] at c
      exact ⟨b, off, rfl, trivial, c⟩
    · obtain ⟨i, hi, rfl⟩ := List.mem_map.1 hs
      exact (hFF i (List.mem_range.1 hi)).1

/-- Constants that came in. -/
theorem consts_open {H : Type} {enc : TypeId × Value → H} {W : World} {held : Bool} {n : Nat} {cs : List Value} {x : DataW H × List MemPlace} (h : DataW.trod enc Tryz.prog W 0 (fun _ => true) held n 23 cs = some x)
    (hw : ∀ y ∈ x.1.weights Tryz.prog 23, y ≤ reachBytes) : ∃ (ks : List Cn) (sl : Value), cs = [sl] ∧ HoldsC W okT ks sl ∧ ∀ c ∈ ks, c.name.size ≤ 281474976710656 := by
  rcases DataW.trod_slice Tryz.underlying23 h with ⟨hcs, _⟩ | ⟨a, len, cap, elems, rest, m, hm, hcs, hx, _, hl, hcm, hel, hall, _⟩
  · exact ⟨[], .slice none 0 0, hcs, HoldsC.nil _ _, fun s hs => by cases hs⟩
  · rw [cells66] at hall
    have hF : ∀ i, i < len → ∃ z : Cn × Value, (z.1.name.size ≤ 281474976710656 ∧ Holds W okT z.1.ty.args z.2) ∧ ∀ j, j < 3 → W.cell? ((a.add (i * 3)).add j) = ([.string z.1.name, z.2, .int .i64 z.1.ty.base] : List Value)[j]? := fun i hi => by
      have h1 := hall i hi
      obtain ⟨y, hy⟩ : ∃ y, elems[i]? = some y := ⟨_, List.getElem?_eq_getElem (by omega)⟩
      rw [hy] at h1
      obtain ⟨cs', h2, h3⟩ := Option.bind_eq_some_iff.1 h1
      obtain ⟨_, hlen, hcell⟩ := World.cells?_some h2
      match cs', hlen with
      | [v0, v1, v2], _ =>
        obtain ⟨y0, y1, m', ey, _, t0, t1⟩ := trod_struct2 Tryz.underlying51 h3
        change DataW.trod enc Tryz.prog W 0 (fun _ => true) held m' 9 (List.take (Tryz.prog.cellsOf 9) (List.drop 0 [v0, v1, v2])) = some y0 at t0
        change DataW.trod enc Tryz.prog W 0 (fun _ => true) held m' 49 (List.take (Tryz.prog.cellsOf 49) (List.drop 1 [v0, v1, v2])) = some y1 at t1
        simp only [List.drop_zero, List.drop_succ_cons, cells9, cells64, List.take_succ_cons, List.take_zero] at t0 t1
        obtain ⟨s, e, es, _⟩ := DataW.trod_string Tryz.underlying9 t0
        obtain ⟨z0, z1, m2, _, _, s0, s1⟩ := trod_struct2 Tryz.underlying49 t1
        change DataW.trod enc Tryz.prog W 0 (fun _ => true) held m2 47 (List.take (Tryz.prog.cellsOf 47) (List.drop 0 [v1, v2])) = some z0 at s0
        change DataW.trod enc Tryz.prog W 0 (fun _ => true) held m2 3 (List.take (Tryz.prog.cellsOf 3) (List.drop 1 [v1, v2])) = some z1 at s1
        simp only [List.drop_zero, List.drop_succ_cons, cells3, cells62, List.take_succ_cons, List.take_zero] at s0 s1
        obtain ⟨b, e1, _, _⟩ := DataW.trod_int Tryz.underlying3 s1
        obtain ⟨ts', sl', e0, hts⟩ := types_open m2 _ _ s0
        simp only [List.cons.injEq, and_true] at e e0 e1
        subst e e0 e1
        refine ⟨(⟨s, .mk ts' b⟩, v1), ⟨?_, hts⟩, fun j hj => hcell j hj⟩
        have hmem : s.data.toList.length ∈ DataW.weightsAll Tryz.prog 51 (elems.map (·.1)) := weights_mem (List.mem_map.2 ⟨y, List.mem_of_getElem? hy, rfl⟩) (by
          rw [ey, es]
          simp [DataW.weights, DataW.weightsEach, Tryz.underlying51])
        have := hw s.data.toList.length (by rw [hx]; simp only [DataW.weights, Tryz.underlying23]; exact List.mem_cons_of_mem _ (List.mem_append_left _ hmem))
        unfold reachBytes at this
        have e9 : s.size = s.data.toList.length := by simp
        simp only
        omega
    obtain ⟨F, hFF⟩ := @Deep.choose_lt (Cn × Value) ⟨(⟨⟨#[]⟩, .mk [] 0⟩, .slice none 0 0)⟩ len _ hF
    refine ⟨(List.range len).map (fun i => (F i).1), .slice (some a) len cap, hcs, ⟨some a, cap, by simp, by simpa using hl, (fun h => by cases h), fun i c hi => ?_⟩, fun c hc => ?_⟩
    · obtain ⟨hil, rfl⟩ := range_get hi
      have c := (hFF i hil).2
      obtain ⟨b, off, spot⟩ := a
      have hs : spot = none := by
        have c0 := (hFF 0 (by omega)).2 0 (by omega)
        have c' : W.cell? ⟨b, off, spot⟩ = some (.string (F 0).1.name) := by simpa [Addr.add] using c0
        exact World.cell?_spot c'
      subst hs
      have c0 := c 0 (by omega)
      have c1 := c 1 (by omega)
      have c2 := c 2 (by omega)
      rw [add_plain, add_plain] at c0 c1 c2
      exact ⟨b, off, (F i).2, rfl, trivial, c0, c1, c2, (hFF i hil).1.2⟩
    · obtain ⟨i, hi, rfl⟩ := List.mem_map.1 hc
      exact (hFF i (List.mem_range.1 hi)).1.1

set_option maxRecDepth 100000 in
/-- A table that came in. -/
theorem table_open {H : Type} {enc : TypeId × Value → H} {W : World} {base : Nat} {v : Value} {d : DataW H} {p : List MemPlace} (hv : Value.okWide Tryz.prog W .any base 25 v) (h : DataW.Trod enc Tryz.prog W 0 (fun _ => true) true 25 v d p)
    (hw : ∀ y ∈ d.weights Tryz.prog 25, y ≤ reachBytes) : ∃ (bs : List ByteArray) (ks : List Cn) (va vb : Value), v = tab va vb ∧ HoldsS W okT bs va ∧ HoldsC W okT ks vb ∧ FitS bs ∧ ∀ c ∈ ks, c.name.size ≤ 281474976710656 := by
  obtain ⟨cs, rfl, hcs⟩ := okWide_struct Tryz.underlying25 hv
  rw [cells25] at hcs
  obtain ⟨v0, v1, rfl⟩ : ∃ v0 v1, cs = #[v0, v1] := ⟨cs[0], cs[1], by
    apply Array.ext
    · exact hcs
    · intro i h1 h2
      match i, h2 with
      | 0, _ => rfl
      | 1, _ => rfl⟩
  clear hv hcs
  obtain ⟨m, hm⟩ := h
  change DataW.trod enc Tryz.prog W 0 (fun _ => true) true m 25 [v0, v1] = _ at hm
  obtain ⟨y0, y1, m', ed, _, t0, t1⟩ := trod_struct2 Tryz.underlying25 hm
  change DataW.trod enc Tryz.prog W 0 (fun _ => true) true m' 22 (List.take (Tryz.prog.cellsOf 22) (List.drop 0 [v0, v1])) = some y0 at t0
  change DataW.trod enc Tryz.prog W 0 (fun _ => true) true m' 23 (List.take (Tryz.prog.cellsOf 23) (List.drop 1 [v0, v1])) = some y1 at t1
  simp only [List.drop_zero, List.drop_succ_cons, cells22, cells23, List.take_succ_cons, List.take_zero] at t0 t1
  simp only [Prod.mk.injEq] at ed
  have hall : ∀ y, y ∈ y0.1.weights Tryz.prog 22 ∨ y ∈ y1.1.weights Tryz.prog 23 → y ≤ reachBytes := fun y hy => hw y (by
    rw [ed.1]
    simp only [DataW.weights, Tryz.underlying25, DataW.weightsEach, List.map_cons, List.map_nil, List.append_nil]
    exact List.mem_append.2 hy)
  obtain ⟨bs, sl, e0, hS, fs⟩ := strs_open t0 (fun y hy => hall y (.inl hy))
  obtain ⟨ks, sk, e1, hC, fk⟩ := consts_open t1 (fun y hy => hall y (.inr hy))
  simp only [List.cons.injEq, and_true] at e0 e1
  subst e0 e1
  exact ⟨bs, ks, v0, v1, rfl, hS, hC, fs, fk⟩

end Go.Proofs.YtdihplmlbfggjaaGreatDoor
