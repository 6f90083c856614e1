/-
  The walk of the law PlaceFirst: whatever the faults, it answers true.
-/
import Derived.Test.YtjmpacenlmoldaaDoorFirst
import Derived.Laws.AppendOwn
import Derived.Laws.OwnMore
import Derived.Maps.AppendAt
import Derived.OwnWalk
import Derived.Deep.RegionHeldLaw
import Derived.Deep.AppendLies
namespace Go.Proofs.YtjmpacenlmoldaaDoor
open Go Go.RowKit Go.Shelf Go.Sort Plain

theorem info53 : (Tryd.prog.info? 53).map (fun i => (i.zero, i.size, i.bytes)) = some (some (.agg #[.int .i64 0, .int .i64 0, .int .i64 0, .string ⟨#[]⟩]), 4, 40) := by kernel_rfl

theorem row_below {B : Nat} {e : TypeId} {k : Nat} {v : Value} {n : Nat} {xs : List Value} {w w' : World} (h : w.ownsRow B e k v n xs) (hb : Below w.heap.size w w') : w'.ownsRow B e k v n xs := by
  refine ⟨h.1, ?_⟩
  rcases h.2 with h | ⟨g, cap, cur, h1, h2, h3, h4⟩
  · exact .inl h
  · exact .inr ⟨g, cap, cur, h1, h2, (hb.block g (Array.getElem?_eq_some_iff.1 h3).1).trans h3, h4⟩

/-- The faults' cells, one behind another. -/
def flat (fs : List Flt) : List Value := fs.flatMap fun x => (fcells x).toList

/-- Which is the best, and where it stands. -/
def idxOf : Option (Nat × Flt) → Int
  | none => -1
  | some x => (x.1 : Int)

/-- What the loop knows after k faults. -/
def AccOk (fs : List Flt) (k : Nat) (acc : Option (Nat × Flt)) (v : Value) : Prop :=
  best (fs.take k) = acc.map (·.2) ∧ (∀ j y, acc = some (j, y) → j < k ∧ fs[j]? = some y) ∧ (k = 0 → v = .slice none 0 0)

theorem take_one (fs : List Flt) (k : Nat) (y : Flt) (hy : fs[k]? = some y) : fs.take (k + 1) = fs.take k ++ [y] := by
  rw [List.take_add_one, hy]; rfl
theorem flat_one (fs : List Flt) (k : Nat) (y : Flt) (hy : fs[k]? = some y) : flat (fs.take k) ++ (fcells y).toList = flat (fs.take (k + 1)) := by
  rw [take_one fs k y hy]
  simp [flat]
theorem AccOk.keep {fs : List Flt} {k : Nat} {acc : Option (Nat × Flt)} {v v' : Value} {y : Flt} (h : AccOk fs k acc v) (hy : fs[k]? = some y) (hs : stepB (acc.map (·.2)) y = acc.map (·.2)) : AccOk fs (k + 1) acc v' := by
  obtain ⟨h1, h2, _⟩ := h
  refine ⟨by rw [take_one fs k y hy, best_snoc, h1, hs], fun j z hj => ?_, fun e => by omega⟩
  have := h2 j z hj
  exact ⟨by omega, this.2⟩
theorem AccOk.take {fs : List Flt} {k : Nat} {acc : Option (Nat × Flt)} {v v' : Value} {y : Flt} (h : AccOk fs k acc v) (hy : fs[k]? = some y) (hs : stepB (acc.map (·.2)) y = some y) : AccOk fs (k + 1) (some (k, y)) v' := by
  obtain ⟨h1, _, _⟩ := h
  refine ⟨by rw [take_one fs k y hy, best_snoc, h1, hs]; rfl, fun j z hj => ?_, fun e => by omega⟩
  simp only [Option.some.injEq, Prod.mk.injEq] at hj
  obtain ⟨rfl, rfl⟩ := hj
  exact ⟨by omega, hy⟩

theorem flat_get (fs : List Flt) : ∀ (i : Nat) (x : Flt), fs[i]? = some x → (flat fs)[i * 4]? = some (.int .i64 x.c) ∧ (flat fs)[i * 4 + 1]? = some (.int .i64 x.a) ∧ (flat fs)[i * 4 + 2]? = some (.int .i64 x.b) ∧ (flat fs)[i * 4 + 3]? = some (.string x.wd) := by
  induction fs with
  | nil => intro i x h; simp at h
  | cons y fs ih =>
    intro i x h
    have e : flat (y :: fs) = .int .i64 y.c :: .int .i64 y.a :: .int .i64 y.b :: .string y.wd :: flat fs := by simp [flat, fcells]
    rw [e]
    cases i with
    | zero => simp at h; subst h; exact ⟨rfl, rfl, rfl, rfl⟩
    | succ i =>
      have := ih i x (by simpa using h)
      rw [show (i + 1) * 4 = i * 4 + 1 + 1 + 1 + 1 by omega]
      simpa [List.getElem?_cons_succ] using this

theorem flat_length (fs : List Flt) : (flat fs).length = fs.length * 4 := by
  induction fs with
  | nil => rfl
  | cons y fs ih =>
    have e : flat (y :: fs) = (fcells y).toList ++ flat fs := by simp [flat]
    rw [e, List.length_append, ih]
    simp [fcells]; omega

theorem holds_of_row {w : World} {N g cap : Nat} {fs : List Flt} (h : w.ownsRow N 53 4 (.slice (some ⟨g, 0, none⟩) fs.length cap) fs.length (flat fs)) : Holds4 w g 0 fs := fun i x hx => by
  obtain ⟨h0, h1, h2, h3⟩ := flat_get fs i x hx
  have hi : i < fs.length := (List.getElem?_eq_some_iff.1 hx).1
  simp only [Nat.zero_add]
  exact ⟨(h.cellAt _ (by omega)).trans h0, (h.cellAt _ (by omega)).trans h1, (h.cellAt _ (by omega)).trans h2, (h.cellAt _ (by omega)).trans h3⟩
theorem row_cap {w : World} {N g cap n : Nat} {e : TypeId} {size : Nat} {xs : List Value} (h : w.ownsRow N e size (.slice (some ⟨g, 0, none⟩) n cap) n xs) : n ≤ cap := by
  rcases h.2 with ⟨h', _⟩ | ⟨g', cap', cur, h', _, _, hnc, _⟩
  · simp at h'
  · simp only [Value.slice.injEq] at h'
    omega

set_option maxHeartbeats 3200000 in
theorem firsts_loop (b off len cap : Nat) (fs : List Flt) (hlen : fs.length = min len 50) (hlc : len ≤ cap) (_hcap : cap ≤ 4611686018427387904) (hwd : ∀ x ∈ fs, x.wd.size ≤ 281474976710656) (w : World) (hL : Laid w) (hbw : b < w.heap.size) (hf : Holds4 w b off fs) :
    Calls Tryd.prog 6 #[.slice (some ⟨b, off, none⟩) len cap] w fun r w' => r = .returned (.bool true) ∧ Below w.heap.size w w' := by
  obtain ⟨N, hN⟩ : ∃ N, w.heap.size = N := ⟨_, rfl⟩
  rw [hN] at hbw
  have HN : Hid (w.heap.size = N) := hN
  obtain ⟨i0, hi, hz0, hz1, hz2⟩ := info_parts info53
  go_enter Tryd.func6, Tryd.ntmps6
  go_wp2
  have hln : (min (len : Int) 50).toNat = fs.length := by omega
  rw [hln]
  have HLEN : Hid (fs.length = min len 50) := hlen
  have hfl : fs.length ≤ 50 := by omega
  clear hln hlen
  have hS : ∀ X, Below N w X → Holds4 X b off fs := fun X hX => hf.below hX hbw
  have HS : Hid (∀ X, Below N w X → Holds4 X b off fs) := hS
  clear hS hf
  go_loopw [3, 4, 5] (fun m t i wr => ∃ (k : Nat) (acc : Option (Nat × Flt)) (v : Value), k ≤ fs.length ∧ i = .int .i64 k ∧ m = v ∧ t = .int .i64 (idxOf acc) ∧ wr.ownsRow N 53 4 v k (flat (fs.take k)) ∧ AccOk fs k acc v ∧ Below N w wr)
    (fun _ _ i _ => fs.length - (intOf i).toNat)
  case atStart =>
    exact ⟨0, none, _, Nat.zero_le _, rfl, rfl, rfl, World.ownsRow_nil _ _ _ _, ⟨rfl, (fun _ _ h => by cases h), fun _ => rfl⟩, Below.refl _ _⟩
  case round =>
    obtain ⟨k, acc, v, hk, rfl, rfl, rfl, hrow, hacc, hb⟩ := hrel
    have hNW : N ≤ wr.heap.size := by have := hb.size; omega
    by_cases hlt : k < fs.length
    · obtain ⟨y, hy⟩ : ∃ y, fs[k]? = some y := ⟨_, List.getElem?_eq_getElem hlt⟩
      have HY : Hid (fs[k]? = some y) := hy
      have hS : ∀ X, Below N w X → X.cell? ⟨b, off + k * 4, none⟩ = some (.int .i64 y.c) ∧ X.cell? ⟨b, off + k * 4 + 1, none⟩ = some (.int .i64 y.a) ∧ X.cell? ⟨b, off + k * 4 + 2, none⟩ = some (.int .i64 y.b) ∧ X.cell? ⟨b, off + k * 4 + 3, none⟩ = some (.string y.wd) := fun X hX => HS.out X hX k y hy
      have HT : Hid (∀ X, Below N w X → X.cell? ⟨b, off + k * 4, none⟩ = some (.int .i64 y.c) ∧ X.cell? ⟨b, off + k * 4 + 1, none⟩ = some (.int .i64 y.a) ∧ X.cell? ⟨b, off + k * 4 + 2, none⟩ = some (.int .i64 y.b) ∧ X.cell? ⟨b, off + k * 4 + 3, none⟩ = some (.string y.wd)) := hS
      clear hS hy
      go_upto_region 7 with fail
      go_region_held_law (fun w' => w'.cell? ⟨b, off + k * 4, none⟩ = some (.int .i64 y.c) ∧ w'.cell? ⟨b, off + k * 4 + 1, none⟩ = some (.int .i64 y.a) ∧ w'.cell? ⟨b, off + k * 4 + 2, none⟩ = some (.int .i64 y.b) ∧ w'.cell? ⟨b, off + k * 4 + 3, none⟩ = some (.string y.wd))
        (first | exact HT.out _ hb.drew | exact HT.out _ hbt | exact HT.out _ (hbt.alloc hbn _) | exact HT.out _ hap)
        (first
          | (go_at_call 11; refine (to_calls y.a y.b _).mono ?_; rintro e w2 ⟨rfl, hb2⟩; have hbt : Below N w w2 := hb.drew.trans (hb2.mono hNW); have hrow2 := row_below hrow.drew hb2; have hbn : N ≤ w2.heap.size := Nat.le_trans hNW hb2.size)
          | (refine step_append_lies _ rfl _ _ 49 rfl N 53 i0 _ 4 40 Tryd.underlying49 hi hz0 hz1 hz2 rfl (by decide) _ k (flat (fs.take k)) rfl (hrow2.alloc _) ⟨w2.heap.size, 0, none⟩ 1 1 (fcells y).toList rfl rfl (World.news_of_block (World.alloc_heap_new w2 _)) (by simp [fcells, Value.oneCell']) (by omega) (by unfold maxLen; omega) (by omega) (by simp; omega) _ rfl ?_; intro g cap' w3 hown hgrow hat hlt3; have hap : Below N w w3 := (hbt.alloc hbn _).grown hgrow (by simp; omega) (fun j hj => (hrow2.lt j hj).1)))
      simp only [List.getElem_toArray, List.getElem_cons_succ, List.getElem_cons_zero, List.set_cons_succ, List.set_cons_zero, List.setIfInBounds_toArray]
      go_wp2
      have hB3 := hap
      have hfl3 : w3.ownsRow N 53 4 (.slice (some ⟨g, 0, none⟩) (k + 1) cap') (k + 1) (flat (fs.take (k + 1))) := by rw [← flat_one fs k y HY.out]; exact hown
      have hn3 : N ≤ w3.heap.size := Nat.le_trans hbn (Nat.le_trans (by simp) hgrow.size)
      clear hown hgrow hat hlt3 hap hbt hrow2 hbn hb2
      have k0 : ∀ d os, (grow (redrawn w3 d) os).cell? ⟨b, off + k * 4, none⟩ = some (.int .i64 y.c) := fun d os => cell_regrown (HT.out _ hB3).1 d os
      have k1 : ∀ d os, (grow (redrawn w3 d) os).cell? ⟨b, off + k * 4 + 1, none⟩ = some (.int .i64 y.a) := fun d os => cell_regrown (HT.out _ hB3).2.1 d os
      have k2 : ∀ d os, (grow (redrawn w3 d) os).cell? ⟨b, off + k * 4 + 2, none⟩ = some (.int .i64 y.b) := fun d os => cell_regrown (HT.out _ hB3).2.2.1 d os
      by_cases hz : y.c = 0
      · have hzb : (y.c != 0) = false := by simp [hz]
        have HS0 : Hid (stepB (acc.map (·.2)) y = acc.map (·.2)) := by show _ = _; unfold stepB; rw [if_pos hz]
        clear hz
        refine wp_region_quiet_below (by kernel_rfl) (by kernel_rfl) ?_
        repeat (go_big_quiet_step (fail))
        refine wpQuiet_nil ?_
        intro _ hw'
        obtain ⟨⟨dq2, osq2⟩, hw''⟩ := hw'
        subst hw''
        go_wp2
        go_roundw
        case rel => first | exact ⟨k + 1, acc, _, by omega, by go_num, rfl, rfl, row_below hfl3 (below_regrown w3 dq2 osq2), hacc.keep HY.out HS0.out, hB3.trans ((below_regrown w3 dq2 osq2).mono hn3)⟩ | ((repeat apply Exists.intro); exact ⟨⟨k + 1, acc, _, by omega, by go_num, rfl, rfl, row_below hfl3 (below_regrown w3 dq2 osq2), hacc.keep HY.out HS0.out, hB3.trans ((below_regrown w3 dq2 osq2).mono hn3)⟩, rfl⟩)
        case measure => simp [intOf]; omega
      · have hzb : (y.c != 0) = true := by simp [hz]
        have HZ : Hid (¬ y.c = 0) := hz
        clear hz
        cases acc with
        | none =>
          have HS0 : Hid (stepB none y = some y) := by show _ = _; unfold stepB; rw [if_neg HZ.out]
          rw [show idxOf none = -1 from rfl]
          refine wp_region_quiet_below (by kernel_rfl) (by kernel_rfl) ?_
          repeat (go_big_quiet_step (fail))
          refine wpQuiet_nil ?_
          intro _ hw'
          obtain ⟨⟨dq2, osq2⟩, hw''⟩ := hw'
          subst hw''
          go_wp2
          go_roundw
          case rel => first | exact ⟨k + 1, some (k, y), _, by omega, by go_num, rfl, rfl, row_below hfl3 (below_regrown w3 dq2 osq2), hacc.take HY.out HS0.out, hB3.trans ((below_regrown w3 dq2 osq2).mono hn3)⟩ | ((repeat apply Exists.intro); exact ⟨⟨k + 1, some (k, y), _, by omega, by go_num, rfl, rfl, row_below hfl3 (below_regrown w3 dq2 osq2), hacc.take HY.out HS0.out, hB3.trans ((below_regrown w3 dq2 osq2).mono hn3)⟩, rfl⟩)
          case measure => simp [intOf]; omega
        | some jz =>
          obtain ⟨j, z⟩ := jz
          obtain ⟨hjk, hjz⟩ := hacc.2.1 j z rfl
          have HJ : Hid (fs[j]? = some z) := hjz
          have HU := fun X (hX : Below N w X) => HS.out X hX j z hjz
          have m1 : ∀ d os, (grow (redrawn w3 d) os).cell? ⟨b, off + j * 4 + 1, none⟩ = some (.int .i64 z.a) := fun d os => cell_regrown (HU _ hB3).2.1 d os
          have m2 : ∀ d os, (grow (redrawn w3 d) os).cell? ⟨b, off + j * 4 + 2, none⟩ = some (.int .i64 z.b) := fun d os => cell_regrown (HU _ hB3).2.2.1 d os
          clear HU hjz
          rw [show idxOf (some (j, z)) = (j : Int) from rfl]
          have hj0 : decide ((j : Int) < 0) = false := by simp
          have hjn : j < fs.length := by omega
          have CC : Hid (∀ d os, Calls Tryd.prog 20 #[.agg #[.int .i64 y.a, .int .i64 y.b], .agg #[.int .i64 z.a, .int .i64 z.b]] (grow (redrawn w3 d) os) fun e w'' => e = .returned (.int .i64 (cmpM y.a y.b z.a z.b)) ∧ ∃ p : Regrown, w'' = grow (redrawn w3 p.d) p.os) := fun d os => Calls.regrown_of (refCompare_calls y.a y.b z.a z.b _)
          have hcm : Hid (stepB (some z) y = if cmpM y.a y.b z.a z.b < 0 then some y else some z) := by show _ = _; unfold stepB; rw [if_neg HZ.out]
          by_cases hcc : cmpM y.a y.b z.a z.b < 0
          · have HS0 : Hid (stepB (some z) y = some y) := by show _ = _; rw [hcm.out, if_pos hcc]
            refine wp_region_quiet_below (by kernel_rfl) (by kernel_rfl) ?_
            repeat (go_big_quiet_step ((go_at_call 20; exact CC.out _ _)))
            refine wpQuiet_nil ?_
            intro _ hw'
            obtain ⟨⟨dq2, osq2⟩, hw''⟩ := hw'
            subst hw''
            go_wp2
            go_roundw
            case rel => first | exact ⟨k + 1, some (k, y), _, by omega, by go_num, rfl, rfl, row_below hfl3 (below_regrown w3 dq2 osq2), hacc.take HY.out HS0.out, hB3.trans ((below_regrown w3 dq2 osq2).mono hn3)⟩ | ((repeat apply Exists.intro); exact ⟨⟨k + 1, some (k, y), _, by omega, by go_num, rfl, rfl, row_below hfl3 (below_regrown w3 dq2 osq2), hacc.take HY.out HS0.out, hB3.trans ((below_regrown w3 dq2 osq2).mono hn3)⟩, rfl⟩)
            case measure => simp [intOf]; omega
          · have HS0 : Hid (stepB (some z) y = some z) := by show _ = _; rw [hcm.out, if_neg hcc]
            refine wp_region_quiet_below (by kernel_rfl) (by kernel_rfl) ?_
            repeat (go_big_quiet_step ((go_at_call 20; exact CC.out _ _)))
            refine wpQuiet_nil ?_
            intro _ hw'
            obtain ⟨⟨dq2, osq2⟩, hw''⟩ := hw'
            subst hw''
            go_wp2
            go_roundw
            case rel => first | exact ⟨k + 1, some (j, z), _, by omega, by go_num, rfl, rfl, row_below hfl3 (below_regrown w3 dq2 osq2), hacc.keep HY.out HS0.out, hB3.trans ((below_regrown w3 dq2 osq2).mono hn3)⟩ | ((repeat apply Exists.intro); exact ⟨⟨k + 1, some (j, z), _, by omega, by go_num, rfl, rfl, row_below hfl3 (below_regrown w3 dq2 osq2), hacc.keep HY.out HS0.out, hB3.trans ((below_regrown w3 dq2 osq2).mono hn3)⟩, rfl⟩)
            case measure => simp [intOf]; omega
    · obtain rfl : k = fs.length := by omega
      rw [List.take_length] at hrow
      have hbest : best fs = acc.map (·.2) := by have := hacc.1; rwa [List.take_length] at this
      by_cases h0 : fs.length = 0
      · obtain rfl : fs = [] := List.eq_nil_of_length_eq_zero h0
        obtain rfl := hacc.2.2 h0
        have hn : acc = none := by
          cases acc with
          | none => rfl
          | some x => simp [best] at hbest
        subst hn
        clear hbest hacc h0
        rw [show idxOf none = -1 from rfl]
        go_wp2_with fail
        refine (First_nil _).mono ?_
        rintro e w1 ⟨rfl, hb1⟩
        have B1 : Below N w w1 := hb.trans (hb1.mono hNW)
        have hn1 : N ≤ w1.heap.size := Nat.le_trans hNW hb1.size
        obtain ⟨M, hM⟩ : ∃ M, w1.heap.size = M := ⟨_, rfl⟩
        go_upto_region 12 with fail
        generalize hW : w1.alloc (.cells #[.int .i64 0, .int .i64 0, .int .i64 0, .string ⟨#[]⟩] 53) = W2
        have f2 : Blk W2 M 53 #[.int .i64 0, .int .i64 0, .int .i64 0, .string ⟨#[]⟩] := by rw [← hW]; exact Blk.new' w1 M 53 _ hM
        have B2 : Below N w W2 := by rw [← hW]; exact B1.alloc hn1 _
        have hn2 : N ≤ W2.heap.size := by have := f2.lt; omega
        clear hW hM
        go_wp2_with fail
        refine (known_calls _ (hL.below (by rw [HN.out]; exact B2))).mono ?_
        rintro e w3 ⟨rfl, hb3⟩
        have B3 : Below N w w3 := B2.trans (hb3.mono hn2)
        have f3 := f2.below hb3 f2.lt
        have p0 : w3.cell? ⟨M, 0, none⟩ = some (.int .i64 0) := f3.cell 0
        have p1 : w3.cell? ⟨M, 1, none⟩ = some (.int .i64 0) := f3.cell 1
        have p2 : w3.cell? ⟨M, 2, none⟩ = some (.int .i64 0) := f3.cell 2
        have p3 : w3.cell? ⟨M, 3, none⟩ = some (.string ⟨#[]⟩) := f3.cell 3
        go_wp2
        go_ret
        exact ⟨rfl, by rw [HN.out]; exact B3⟩
      · obtain ⟨g, cap', rfl, hNg, hgw⟩ := hrow.form (by omega)
        have hH : Holds4 wr g 0 fs := holds_of_row hrow
        cases acc with
        | none =>
          have hb0 : best fs = none := hbest
          have hF := First_calls g cap' fs hfl (row_cap hrow) hwd
          rw [hb0] at hF
          have HF : Hid (∀ (w : World), g < w.heap.size → Holds4 w g 0 fs → Calls Tryd.prog 21 #[.slice (some ⟨g, 0, none⟩) fs.length cap'] w fun r w' => r = .returned (.tuple #[.agg #[.int .i64 0, .int .i64 0, .int .i64 0, .string ⟨#[]⟩], .bool false]) ∧ Below w.heap.size w w') := hF
          clear hbest hacc hb0 hF
          rw [show idxOf none = -1 from rfl]
          go_wp2_with fail
          refine (HF.out _ hgw hH).mono ?_
          rintro e w1 ⟨rfl, hb1⟩
          have B1 : Below N w w1 := hb.trans (hb1.mono hNW)
          have hn1 : N ≤ w1.heap.size := Nat.le_trans hNW hb1.size
          obtain ⟨M, hM⟩ : ∃ M, w1.heap.size = M := ⟨_, rfl⟩
          go_upto_region 12 with fail
          generalize hW : w1.alloc (.cells #[.int .i64 0, .int .i64 0, .int .i64 0, .string ⟨#[]⟩] 53) = W2
          have f2 : Blk W2 M 53 #[.int .i64 0, .int .i64 0, .int .i64 0, .string ⟨#[]⟩] := by rw [← hW]; exact Blk.new' w1 M 53 _ hM
          have B2 : Below N w W2 := by rw [← hW]; exact B1.alloc hn1 _
          have hn2 : N ≤ W2.heap.size := by have := f2.lt; omega
          clear hW hM
          go_wp2_with fail
          refine (known_calls _ (hL.below (by rw [HN.out]; exact B2))).mono ?_
          rintro e w3 ⟨rfl, hb3⟩
          have B3 : Below N w w3 := B2.trans (hb3.mono hn2)
          have f3 := f2.below hb3 f2.lt
          have p0 : w3.cell? ⟨M, 0, none⟩ = some (.int .i64 0) := f3.cell 0
          have p1 : w3.cell? ⟨M, 1, none⟩ = some (.int .i64 0) := f3.cell 1
          have p2 : w3.cell? ⟨M, 2, none⟩ = some (.int .i64 0) := f3.cell 2
          have p3 : w3.cell? ⟨M, 3, none⟩ = some (.string ⟨#[]⟩) := f3.cell 3
          go_wp2
          go_ret
          exact ⟨rfl, by rw [HN.out]; exact B3⟩
        | some jz =>
          obtain ⟨j, z⟩ := jz
          obtain ⟨hjk, hjz⟩ := hacc.2.1 j z rfl
          obtain ⟨u0, u1, u2, u3⟩ := hH j z hjz
          simp only [Nat.zero_add] at u0 u1 u2 u3
          have hF := First_calls g cap' fs hfl (row_cap hrow) hwd
          rw [show best fs = some z from hbest] at hF
          have HF : Hid (∀ (w : World), g < w.heap.size → Holds4 w g 0 fs → Calls Tryd.prog 21 #[.slice (some ⟨g, 0, none⟩) fs.length cap'] w fun r w' => r = .returned (.tuple #[.agg #[.int .i64 z.c, .int .i64 z.a, .int .i64 z.b, .string z.wd], .bool true]) ∧ Below w.heap.size w w') := hF
          clear hbest hacc hF hjz
          rw [show idxOf (some (j, z)) = (j : Int) from rfl]
          have hj0 : decide ((j : Int) < 0) = false := by simp
          go_wp2_with fail
          refine (HF.out _ hgw hH).mono ?_
          rintro e w1 ⟨rfl, hb1⟩
          have B1 : Below N w w1 := hb.trans (hb1.mono hNW)
          have hn1 : N ≤ w1.heap.size := Nat.le_trans hNW hb1.size
          have q0 := (hb1.cell (p := ⟨g, j * 4, none⟩) hgw).trans u0
          have q1 := (hb1.cell (p := ⟨g, j * 4 + 1, none⟩) hgw).trans u1
          have q2 := (hb1.cell (p := ⟨g, j * 4 + 2, none⟩) hgw).trans u2
          have q3 := (hb1.cell (p := ⟨g, j * 4 + 3, none⟩) hgw).trans u3
          have hg1 : g < w1.heap.size := Nat.lt_of_lt_of_le hgw hb1.size
          obtain ⟨M, hM⟩ : ∃ M, w1.heap.size = M := ⟨_, rfl⟩
          go_upto_region 13 with fail
          generalize hW : w1.alloc (.cells #[.int .i64 z.c, .int .i64 z.a, .int .i64 z.b, .string z.wd] 53) = G
          have f2 : Blk G M 53 #[.int .i64 z.c, .int .i64 z.a, .int .i64 z.b, .string z.wd] := by rw [← hW]; exact Blk.new' w1 M 53 _ hM
          have bG : Below w1.heap.size w1 G := by rw [← hW]; exact (Below.refl _ _).alloc (Nat.le_refl _) _
          have B2 : Below N w G := B1.trans (bG.mono hn1)
          have hn2 : N ≤ G.heap.size := by have := f2.lt; omega
          have r0 := (bG.cell (p := ⟨g, j * 4, none⟩) hg1).trans q0
          have r1 := (bG.cell (p := ⟨g, j * 4 + 1, none⟩) hg1).trans q1
          have r2 := (bG.cell (p := ⟨g, j * 4 + 2, none⟩) hg1).trans q2
          have r3 := (bG.cell (p := ⟨g, j * 4 + 3, none⟩) hg1).trans q3
          clear hW hM q0 q1 q2 q3 u0 u1 u2 u3
          have k0 : ∀ d os, (grow (redrawn G d) os).cell? ⟨g, j * 4, none⟩ = some (.int .i64 z.c) := fun d os => cell_regrown r0 d os
          have k1 : ∀ d os, (grow (redrawn G d) os).cell? ⟨g, j * 4 + 1, none⟩ = some (.int .i64 z.a) := fun d os => cell_regrown r1 d os
          have k2 : ∀ d os, (grow (redrawn G d) os).cell? ⟨g, j * 4 + 2, none⟩ = some (.int .i64 z.b) := fun d os => cell_regrown r2 d os
          have k3 : ∀ d os, (grow (redrawn G d) os).cell? ⟨g, j * 4 + 3, none⟩ = some (.string z.wd) := fun d os => cell_regrown r3 d os
          have k4 : ∀ d os, (grow (redrawn G d) os).cell? ⟨M, 0, none⟩ = some (.int .i64 z.c) := fun d os => cell_regrown (f2.cell 0) d os
          have k5 : ∀ d os, (grow (redrawn G d) os).cell? ⟨M, 1, none⟩ = some (.int .i64 z.a) := fun d os => cell_regrown (f2.cell 1) d os
          have k6 : ∀ d os, (grow (redrawn G d) os).cell? ⟨M, 2, none⟩ = some (.int .i64 z.b) := fun d os => cell_regrown (f2.cell 2) d os
          have k7 : ∀ d os, (grow (redrawn G d) os).cell? ⟨M, 3, none⟩ = some (.string z.wd) := fun d os => cell_regrown (f2.cell 3) d os
          clear r0 r1 r2 r3
          have CK : Hid (∀ d os, Calls Tryd.prog 13 #[] (grow (redrawn G d) os) fun e w'' => e = .returned (.bool true) ∧ ∃ p : Regrown, w'' = grow (redrawn G p.d) p.os) := fun d os => Calls.regrown_of (known_calls _ ((hL.below (by rw [HN.out]; exact B2)).below (below_regrown G d os)))
          refine wp_region_quiet_below (by kernel_rfl) (by kernel_rfl) ?_
          repeat (go_big_quiet_step ((go_at_call 13; exact CK.out _ _)))
          refine wpQuiet_nil ?_
          intro _ hw'
          obtain ⟨⟨dq2, osq2⟩, hw''⟩ := hw'
          subst hw''
          go_wp2
          go_ret
          exact ⟨rfl, by rw [HN.out]; exact B2.trans ((below_regrown G dq2 osq2).mono hn2)⟩

set_option maxHeartbeats 800000 in
theorem firsts_nil (w : World) (hL : Laid w) :
    Calls Tryd.prog 6 #[.slice none 0 0] w fun r w' => r = .returned (.bool true) ∧ Below w.heap.size w w' := by
  obtain ⟨N, hN⟩ : ∃ N, w.heap.size = N := ⟨_, rfl⟩
  have HN : Hid (w.heap.size = N) := hN
  go_enter Tryd.func6, Tryd.ntmps6
  go_wp2
  refine wp_loop_rounds 1 ?_; rw [rounds_succ]
  go_wp2_with fail
  refine (First_nil _).mono ?_
  rintro e w1 ⟨rfl, hb1⟩
  rw [hN] at hb1
  have hn1 : N ≤ w1.heap.size := by have := hb1.size; omega
  obtain ⟨M, hM⟩ : ∃ M, w1.heap.size = M := ⟨_, rfl⟩
  go_upto_region 12 with fail
  generalize hW : w1.alloc (.cells #[.int .i64 0, .int .i64 0, .int .i64 0, .string ⟨#[]⟩] 53) = W2
  have f2 : Blk W2 M 53 #[.int .i64 0, .int .i64 0, .int .i64 0, .string ⟨#[]⟩] := by rw [← hW]; exact Blk.new' w1 M 53 _ hM
  have B2 : Below N w W2 := by rw [← hW]; exact hb1.alloc hn1 _
  have hn2 : N ≤ W2.heap.size := by have := f2.lt; omega
  clear hW hM hN
  go_wp2_with fail
  refine (known_calls _ (hL.below (by rw [HN.out]; exact B2))).mono ?_
  rintro e w3 ⟨rfl, hb3⟩
  have B3 : Below N w w3 := B2.trans (hb3.mono hn2)
  have f3 := f2.below hb3 f2.lt
  have p0 : w3.cell? ⟨M, 0, none⟩ = some (.int .i64 0) := f3.cell 0
  have p1 : w3.cell? ⟨M, 1, none⟩ = some (.int .i64 0) := f3.cell 1
  have p2 : w3.cell? ⟨M, 2, none⟩ = some (.int .i64 0) := f3.cell 2
  have p3 : w3.cell? ⟨M, 3, none⟩ = some (.string ⟨#[]⟩) := f3.cell 3
  go_wp2
  go_ret
  exact ⟨rfl, by rw [HN.out]; exact B3⟩

end Go.Proofs.YtjmpacenlmoldaaDoor
