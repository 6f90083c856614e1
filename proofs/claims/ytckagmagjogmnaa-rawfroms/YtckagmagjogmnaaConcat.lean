/-
  The contracts of slices.Grow (of a nil slice) and slices.Concat, at slices of types.
-/
import Derived.Test.YtckagmagjogmnaaMk
import Derived.Lib.AppendZeros
import Derived.Laws.AppendOwnNone
namespace Go.Proofs.Ytckagmagjogmnaa
open Go Go.RowKit

theorem pcells_inv (a : List (Value × Ty)) (j : Nat) (u : Value) (h : (pcells a)[j]? = some u) : ∃ i p, a[i]? = some p ∧ ((j = i * 2 ∧ u = p.1) ∨ (j = i * 2 + 1 ∧ u = .int .i64 p.2.base)) := by
  induction a generalizing j with
  | nil => simp [pcells] at h
  | cons q a ih =>
    match j with
    | 0 => exact ⟨0, q, rfl, .inl ⟨rfl, by simpa [pcells] using h.symm⟩⟩
    | 1 => exact ⟨0, q, rfl, .inr ⟨rfl, by simpa [pcells] using h.symm⟩⟩
    | j + 2 =>
      obtain ⟨i, p, hp, hh⟩ := ih j (by simpa [pcells] using h)
      refine ⟨i + 1, p, by simpa using hp, ?_⟩
      rcases hh with ⟨e, hu⟩ | ⟨e, hu⟩
      · exact .inl ⟨by omega, hu⟩
      · exact .inr ⟨by omega, hu⟩

/-- The cells of a slice of types, as a list. -/
theorem Holds.row {w : World} {ok : Nat → Prop} {ts : List Ty} {g o n cap : Nat} (h : Holds w ok ts (.slice (some ⟨g, o, none⟩) n cap)) :
    n = ts.length ∧ ∃ qs : List (Value × Ty), qs.map (·.2) = ts ∧ (∀ p ∈ qs, Holds w ok p.2.args p.1) ∧ (∀ j u, (pcells qs)[j]? = some u → w.cell? ⟨g, o + j, none⟩ = some u) ∧ ∀ u ∈ pcells qs, u.oneCell' = true := by
  generalize hv : Value.slice (some ⟨g, o, none⟩) n cap = v at h
  cases h with
  | mk ts a' cap' f hcap hnil hc hr =>
    cases hv
    have hget : ∀ i p, (ts.mapIdx (fun i t => (f i, t)))[i]? = some p → ts[i]? = some p.2 ∧ p.1 = f i := by
      intro i p hp
      rw [List.getElem?_mapIdx] at hp
      obtain ⟨t, ht, rfl⟩ := Option.map_eq_some_iff.1 hp
      exact ⟨ht, rfl⟩
    have hcell : ∀ j u, (pcells (ts.mapIdx (fun i t => (f i, t))))[j]? = some u → w.cell? ⟨g, o + j, none⟩ = some u ∧ u.oneCell' = true := by
      intro j u hj
      obtain ⟨i, p, hp, hh⟩ := pcells_inv _ j u hj
      obtain ⟨ht, hf⟩ := hget i p hp
      obtain ⟨g', o', e, _, c0, c1⟩ := hc i p.2 ht
      cases e
      rcases hh with ⟨rfl, rfl⟩ | ⟨rfl, rfl⟩
      · obtain ⟨a1, cp, hs, _⟩ := (hr i p.2 ht).shape
        exact ⟨by rw [hf]; exact c0, by rw [hf, hs]; rfl⟩
      · exact ⟨by rw [← c1]; congr 2, rfl⟩
    refine ⟨rfl, _, ?_, ?_, fun j u hj => (hcell j u hj).1, ?_⟩
    · apply List.ext_getElem?
      intro i
      rw [List.getElem?_map, List.getElem?_mapIdx]
      cases ts[i]? <;> rfl
    · intro p hp
      obtain ⟨i, hi⟩ := List.getElem?_of_mem hp
      obtain ⟨ht, hf⟩ := hget i p hi
      rw [hf]; exact hr i p.2 ht
    · intro u hu
      obtain ⟨j, hj⟩ := List.getElem?_of_mem hu
      exact (hcell j u hj).2

set_option maxRecDepth 100000 in
set_option maxHeartbeats 1000000 in
theorem Grow_zero (w : World) : Calls Try.prog 85 #[.slice none 0 0, .int .i64 0] w fun e w' => e = .returned (.slice none 0 0) ∧ w = w' := by
  go_enter Try.func85, Try.ntmps85
  go_wp2
  go_ret
  exact ⟨rfl, rfl⟩

theorem info29' : (Try.prog.info? 32).map (fun i => (i.zero, i.size, i.bytes)) = some (some (.agg #[.slice none 0 0, .int .i64 0]), 2, 32) := by kernel_rfl

set_option maxRecDepth 100000 in
set_option maxHeartbeats 1000000 in
theorem Grow_some (n : Nat) (h0 : 0 < n) (hn : n ≤ 1000000) (w : World) : Calls Try.prog 85 #[.slice none 0 0, .int .i64 (n : Int)] w fun e w' => ∃ v, e = .returned v ∧ w'.ownsRow w.heap.size 32 2 v 0 [] ∧ Below w.heap.size w w' := by
  obtain ⟨i0, hi, hz0, hz1, hz2⟩ := info_parts info29'
  have hrz : ∀ ty, _ := fun ty => Lib.run_append_nil_zeros (P := Try.prog) w 30 3 ty 32 i0 _ .i64 .i64 Try.underlying30 Try.underlying3 hi hz0 n h0 (by rw [hz1]; omega) (by omega) (by rw [hz2]; omega)
  have hGn : n ≤ grownCap w n 0 32 := grownCap_ge w _ _ _
  have hGm := grownCap_le_maxLen w n 0 32 (by unfold maxLen; omega)
  generalize grownCap w n 0 32 = G at *
  have hcs : (Builtin.zeroCells (Value.agg #[.slice none 0 0, .int .i64 0]).cells n ++ Builtin.zeroCells (Value.agg #[.slice none 0 0, .int .i64 0]).cells (G - n)).size = G * 2 := by
    have hz : (Value.agg #[.slice none 0 0, .int .i64 0]).cells.size = 2 := rfl
    rw [Array.size_append, size_zeroCells, size_zeroCells, hz]
    omega
  generalize Builtin.zeroCells (Value.agg #[.slice none 0 0, .int .i64 0]).cells n ++ Builtin.zeroCells (Value.agg #[.slice none 0 0, .int .i64 0]).cells (G - n) = cs at *
  have hG63 : G ≤ 9223372036854775807 := by unfold maxLen at hGm; omega
  have z0 : ¬ ((n : Int) < 0) := by omega
  have z1 : (0 : Int) < (n : Int) := by omega
  go_enter Try.func85, Try.ntmps85
  go_wp2_with (at_builtin; refine Lib.wpList_append_run _ rfl _ _ _ _ rfl _ _ rfl rfl _ _ (hrz _) ?_)
  go_ret
  exact ⟨_, rfl, World.ownsRow_made w cs G (Nat.le_refl _) hGm hcs, ((Below.refl _ _).alloc (Nat.le_refl _) _).drew⟩

theorem Grow_calls (n : Nat) (hn : n ≤ 1000000) (w : World) : Calls Try.prog 85 #[.slice none 0 0, .int .i64 (n : Int)] w fun e w' => ∃ v, e = .returned v ∧ w'.ownsRow w.heap.size 32 2 v 0 [] ∧ Below w.heap.size w w' := by
  by_cases h0 : n = 0
  · subst h0
    refine (Grow_zero w).mono ?_
    rintro e w' ⟨rfl, rfl⟩
    exact ⟨_, rfl, World.ownsRow_nil _ _ _ _, Below.refl _ _⟩
  · exact Grow_some n (by omega) hn w

/-- All types of lists, in order. -/
def flat : List (Value × List Ty) → List Ty
  | [] => []
  | p :: r => p.2 ++ flat r
theorem flat_append (a b : List (Value × List Ty)) : flat (a ++ b) = flat a ++ flat b := by
  induction a with
  | nil => rfl
  | cons p a ih => simp [flat, ih]
theorem flat_take {ls : List (Value × List Ty)} {k : Nat} {p : Value × List Ty} (h : ls[k]? = some p) : flat (ls.take (k + 1)) = flat (ls.take k) ++ p.2 := by
  rw [List.take_add_one, h, flat_append]; simp [flat]
theorem flat_take_le (ls : List (Value × List Ty)) (k : Nat) : (flat (ls.take k)).length ≤ (flat ls).length := by
  conv => rhs; rw [← List.take_append_drop k ls, flat_append]
  simp

theorem row_below {w w' : World} {base size n : Nat} {e : TypeId} {v : Value} {xs : List Value} (h : w.ownsRow base e size v n xs) (hb : Below w.heap.size w w') : w'.ownsRow base e size v n xs := by
  obtain ⟨h1, h2⟩ := h
  refine ⟨h1, ?_⟩
  rcases h2 with h2 | ⟨g, cap, cur, e1, e2, e3, e4⟩
  · exact .inl h2
  · refine .inr ⟨g, cap, cur, e1, e2, ?_, e4⟩
    have hlt : g < w.heap.size := (Array.getElem?_eq_some_iff.1 e3).1
    exact (hb.block g hlt).trans e3

set_option maxRecDepth 100000 in
set_option maxHeartbeats 1600000 in
theorem Concat_calls (ok : Nat → Prop) (ls : List (Value × List Ty)) (G : Nat) (w : World) (hG : ∀ i p, ls[i]? = some p → w.cell? ⟨G, i, none⟩ = some p.1 ∧ Holds w ok p.2 p.1) (hm : ls.length ≤ 4) (htot : (flat ls).length ≤ 1000000) :
    Calls Try.prog 60 #[.slice (some ⟨G, 0, none⟩) ls.length ls.length] w fun e w' => ∃ v ps, e = .returned v ∧ w'.ownsRow w.heap.size 32 2 v ps.length (pcells ps) ∧ ps.map (·.2) = flat ls ∧ (∀ p ∈ ps, Holds w ok p.2.args p.1) ∧ Below w.heap.size w w' := by
  obtain ⟨i0, hi, hz0, hz1, hz2⟩ := info_parts info29'
  have HG : Hid _ := hG
  clear hG
  obtain ⟨N, hN⟩ : ∃ N, w.heap.size = N := ⟨_, rfl⟩
  obtain ⟨m, hml⟩ : ∃ m, ls.length = m := ⟨_, rfl⟩
  rw [hml] at hm
  have HM : Hid (ls.length = m) := hml
  rw [hml]
  clear hml
  obtain ⟨tot, hto⟩ : ∃ tot, (flat ls).length = tot := ⟨_, rfl⟩
  rw [hto] at htot
  have HT : Hid ((flat ls).length = tot) := hto
  clear hto
  go_enter Try.func60, Try.ntmps60
  go_wp2
  go_loop [3, 11] (fun s i => ∃ (k : Nat), k ≤ m ∧ i = .int .i64 k ∧ s = .int .i64 (((flat (ls.take k)).length : Nat) : Int))
    (fun _ i => m - (intOf i).toNat)
  case atStart => exact ⟨0, Nat.zero_le _, rfl, by simp [flat]⟩
  case round =>
    obtain ⟨k, hk, rfl, rfl⟩ := hrel
    have hfl := flat_take_le ls k
    rw [HT.out] at hfl
    by_cases hlt : k < m
    · obtain ⟨p, hp⟩ : ∃ p, ls[k]? = some p := ⟨_, List.getElem?_eq_getElem (by rw [HM.out]; exact hlt)⟩
      obtain ⟨c0, hp0⟩ := HG.out k p hp
      obtain ⟨pa, pc, hps, _⟩ := hp0.shape
      rw [hps] at c0
      have hS : Hid ((flat (ls.take (k + 1))).length = (flat (ls.take k)).length + p.2.length) := by show _ = _; rw [flat_take hp, List.length_append]
      have hle := flat_take_le ls (k + 1)
      rw [HT.out, hS.out] at hle
      have y1 : (0 : Int) ≤ (k : Int) := by omega
      have y2 : (k : Int) < (m : Int) := by omega
      clear hp hps hp0
      go_wp2
      go_round
      case rel => exact ⟨k + 1, by omega, by go_num, by rw [hS.out]; go_num⟩
      case measure => simp [intOf]; omega
    · obtain rfl : m = k := by omega
      have hfin : flat (ls.take m) = flat ls := by rw [← HM.out, List.take_length]
      rw [hfin, HT.out]
      clear hfin hfl
      go_wp2_with (go_at_call 85; refine (Grow_calls tot htot _).mono ?_; rintro e w1 ⟨v1, rfl, hr1, hb1⟩)
      rw [hN] at hr1 hb1
      go_loopw [6, 27] (fun s i wr => ∃ (k : Nat) (vk : Value) (ps : List (Value × Ty)), k ≤ m ∧ i = .int .i64 k ∧ s = vk ∧ Hid (ps.map (·.2) = flat (ls.take k)) ∧ wr.ownsRow N 32 2 vk ps.length (pcells ps) ∧ (∀ p ∈ ps, Holds w ok p.2.args p.1) ∧ Below N w wr)
        (fun _ i _ => m - (intOf i).toNat)
      case atStart => exact ⟨0, v1, [], Nat.zero_le _, rfl, rfl, by show _ = _; simp [flat], hr1, (fun p hp => by cases hp), hb1⟩
      case round =>
        obtain ⟨k, vk, ps, hk, rfl, rfl, HP, hrow, hkid, hbl⟩ := hrel
        have HK : Hid _ := hkid
        have hpl : ps.length = (flat (ls.take k)).length := by have := congrArg List.length HP.out; rwa [List.length_map] at this
        have hfl := flat_take_le ls k
        rw [HT.out, ← hpl] at hfl
        clear hpl hkid
        have hNw : N ≤ wr.heap.size := by have := hbl.size; omega
        by_cases hlt : k < m
        · obtain ⟨p, hp⟩ : ∃ p, ls[k]? = some p := ⟨_, List.getElem?_eq_getElem (by rw [HM.out]; exact hlt)⟩
          obtain ⟨c0, hp0⟩ := HG.out k p hp
          have hGN : G < N := by have h9 : G < w.heap.size := lt_of_cell c0; omega
          have q0 := (cat hbl hGN).trans c0
          obtain ⟨pa, pc, hps, _⟩ := hp0.shape
          have hp1 := hp0
          rw [hps] at q0 hp1
          have HS : Hid (flat (ls.take (k + 1)) = flat (ls.take k) ++ p.2) := flat_take hp
          have hle := flat_take_le ls (k + 1)
          rw [HT.out, HS.out, List.length_append] at hle
          have hpl : ps.length = (flat (ls.take k)).length := by have := congrArg List.length HP.out; rwa [List.length_map] at this
          rw [← hpl] at hle
          have y1 : (0 : Int) ≤ (k : Int) := by omega
          have y2 : (k : Int) < (m : Int) := by omega
          clear hp hps hp0 hpl c0
          cases pa with
          | none =>
            obtain ⟨e0, e1, e2⟩ := hp1.isnil
            rw [e0, e1] at q0
            have HP2 : Hid (ps.map (·.2) = flat (ls.take (k + 1))) := by show _ = _; rw [HS.out, e2, List.append_nil, HP.out]
            clear e0 e1 e2 hp1
            go_wp2_with (at_builtin; refine wpList_append_own_none rfl _ _ 30 rfl N 32 i0 2 Try.underlying30 hi _ ps.length (pcells ps) rfl hrow rfl ?_)
            go_roundw
            case rel => exact ⟨k + 1, _, ps, by omega, by go_num, rfl, HP2, hrow, HK.out, hbl⟩
            case measure => simp [intOf]; omega
          | some ad =>
            obtain ⟨qs, hq1, hq2, hq3, hq4⟩ : ∃ qs : List (Value × Ty), qs.map (·.2) = p.2 ∧ (∀ p ∈ qs, Holds w ok p.2.args p.1) ∧ (∀ j u, (pcells qs)[j]? = some u → w.cell? (ad.add j) = some u) ∧ ∀ u ∈ pcells qs, u.oneCell' = true := by
              cases hpe : p.2 with
              | nil => exact ⟨[], rfl, fun p hp => (by cases hp), fun j u h => by simp [pcells] at h, fun u h => by simp [pcells] at h⟩
              | cons t r =>
                obtain ⟨a', cap', e1, _, hat⟩ := hp1.shape
                obtain ⟨g, o, _, e2, _⟩ := hat 0 t (by rw [hpe]; rfl)
                cases e1
                cases e2
                obtain ⟨_, qs, h1, h2, h3, h4⟩ := hp1.row
                exact ⟨qs, by rw [← hpe]; exact h1, h2, fun j u hj => by have := h3 j u hj; rwa [show (⟨g, o, none⟩ : Addr).add j = ⟨g, o + j, none⟩ by simp [Addr.add]], h4⟩
            have hql : qs.length = p.2.length := by rw [← hq1, List.length_map]
            rw [← hql] at q0 hle
            have hq5 : ∀ j u, (pcells qs)[j]? = some u → wr.cell? (ad.add j) = some u := fun j u hj => by
              have h0 := hq3 j u hj
              exact (hbl.cell (p := ad.add j) (by have := lt_of_cell h0; omega)).trans h0
            have HP2 : Hid ((ps ++ qs).map (·.2) = flat (ls.take (k + 1))) := by show _ = _; rw [HS.out, List.map_append, HP.out, hq1]
            have HK2 : Hid (∀ p ∈ ps ++ qs, Holds w ok p.2.args p.1) := fun x hx => by
              rcases List.mem_append.1 hx with hx | hx
              · exact HK.out x hx
              · exact hq2 x hx
            clear hq1 hq2 hq3 hp1 hql
            go_wp2_with (at_builtin; refine wpList_append_own _ rfl _ _ 30 rfl N 32 i0 _ 2 32 Try.underlying30 hi hz0 hz1 hz2 rfl (by decide) _ ps.length (pcells ps) rfl hrow ad qs.length pc (pcells qs) rfl (pcells_length qs) hq5 hq4 (by unfold maxLen; omega) (by omega) hNw ?_; intro v2 w2 hown2 hgrow2 _)
            have hb2 : Below N w w2 := hbl.grown hgrow2 (by omega) (fun j hj => (hrow.lt j hj).1)
            clear hgrow2
            go_wp2
            go_roundw
            case rel => exact ⟨k + 1, v2, ps ++ qs, by omega, by go_num, rfl, HP2, by rw [List.length_append, pcells_append]; exact hown2, HK2.out, hb2⟩
            case measure => simp [intOf]; omega
        · obtain rfl : m = k := by omega
          go_wp2
          go_ret
          exact ⟨_, ps, rfl, by rw [hN]; exact hrow, by rw [HP.out, ← HM.out, List.take_length], HK.out, by rw [hN]; exact hbl⟩

end Go.Proofs.Ytckagmagjogmnaa
