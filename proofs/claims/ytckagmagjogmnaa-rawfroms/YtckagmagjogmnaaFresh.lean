/-
  The contracts of kind.fresh and kind.freshAll: types told in memory of their own.
-/
import Derived.Test.YtckagmagjogmnaaConcat
namespace Go.Proofs.Ytckagmagjogmnaa
open Go Go.RowKit

theorem row_set {w : World} {base size n g cap : Nat} {e : TypeId} {xs : List Value} (h : w.ownsRow base e size (.slice (some ⟨g, 0, none⟩) n cap) n xs) (i : Nat) (u : Value) :
    (w.setCell ⟨g, i, none⟩ u).ownsRow base e size (.slice (some ⟨g, 0, none⟩) n cap) n (xs.set i u) := by
  obtain ⟨h1, h2⟩ := h
  refine ⟨by rw [List.length_set]; exact h1, ?_⟩
  rcases h2 with ⟨h2, _⟩ | ⟨g', cap', cur, e1, e2, e3, e4, e5, e6, e7⟩
  · cases h2
  · cases e1
    refine .inr ⟨g, cap, cur.setIfInBounds i u, rfl, e2, Blk.set (show Blk w g e cur from e3) i u, e4, e5, by simpa using e6, ?_⟩
    rw [Array.toList_setIfInBounds, List.take_set, e7]
theorem row_frozen {w : World} {base size n g cap : Nat} {e : TypeId} {xs : List Value} (h : w.ownsRow base e size (.slice (some ⟨g, 0, none⟩) n cap) n xs) (i : Nat) : w.frozen? ⟨g, i, none⟩ = false := by
  rcases h.2 with ⟨h2, _⟩ | ⟨g', cap', cur, e1, e2, e3, _⟩
  · cases h2
  · cases e1
    exact Blk.frozen (show Blk w g e cur from e3) i
theorem pcells_set (rs : List (Value × Ty)) (p : Value × Ty) (r : List (Value × Ty)) (a : Value) (t : Ty) :
    ((pcells (rs ++ p :: r)).set (rs.length * 2) a).set (rs.length * 2 + 1) (.int .i64 t.base) = pcells (rs ++ (a, t) :: r) := by
  rw [pcells_append, pcells_append]
  have hl := pcells_length rs
  rw [List.set_append_right _ _ (by omega), List.set_append_right _ _ (by omega)]
  rw [show rs.length * 2 - (pcells rs).length = 0 by omega, show rs.length * 2 + 1 - (pcells rs).length = 1 by omega]
  rfl

/-- fresh's own word of one type -/
def FreshAt (t : Ty) : Prop := ∀ (ok : Nat → Prop) (sl : Value) (w : World), Holds w ok t.args sl →
    Calls Try.prog 89 #[tv sl t.base] w fun e w' => ∃ v, e = .returned (tv v t.base) ∧ Holds w' (fun b => w.heap.size ≤ b) t.args v ∧ Below w.heap.size w w'

theorem holds_of_row {w : World} {M : Nat} {e : TypeId} {v : Value} {ps : List (Value × Ty)} {ok : Nat → Prop} (h' : w.ownsRow M e 2 v ps.length (pcells ps)) (hk : ∀ p ∈ ps, Holds w ok p.2.args p.1) (hM : ∀ b, M ≤ b → ok b) : Holds w ok (ps.map (·.2)) v := by
  obtain ⟨h1, h2⟩ := h'
  rcases h2 with ⟨rfl, h2⟩ | ⟨g, cap, cur, rfl, e2, e3, e4, e5, e6⟩
  · have : ps = [] := List.eq_nil_of_length_eq_zero h2
    subst this
    exact Holds.nil _ _ _ _ (fun _ => rfl)
  · have hc := World.ownsRow.cellAt (show w.ownsRow M e 2 (.slice (some ⟨g, 0, none⟩) ps.length cap) ps.length (pcells ps) from ⟨h1, .inr ⟨g, cap, cur, rfl, e2, e3, e4, e5, e6⟩⟩)
    have hq : ∀ (i : Nat) (u : Ty), (ps.map (·.2))[i]? = some u → ∃ p : Value × Ty, ps[i]? = some p ∧ p.2 = u := by
      intro i u hi
      rw [List.getElem?_map] at hi
      exact Option.map_eq_some_iff.1 hi
    have := Holds.mk (w := w) (ok := ok) (ps.map (·.2)) (some ⟨g, 0, none⟩) cap (fun i => ((ps[i]?).map (·.1)).getD undef) (by simpa using e4) (fun h => by cases h)
      (fun i u hi => by
        obtain ⟨p, hp, rfl⟩ := hq i u hi
        obtain ⟨c0, c1⟩ := pcells_get ps i p hp
        have hil := (List.getElem?_eq_some_iff.1 hp).1
        refine ⟨g, 0, rfl, hM g e2, ?_, ?_⟩
        · rw [Nat.zero_add, hc _ (by omega), c0, hp]; rfl
        · rw [Nat.zero_add, hc _ (by omega), c1])
      (fun i u hi => by
        obtain ⟨p, hp, rfl⟩ := hq i u hi
        rw [hp]
        exact hk p (List.mem_of_getElem? hp))
    rwa [List.length_map] at this

theorem row_shape {w : World} {base size n : Nat} {e : TypeId} {v : Value} {xs : List Value} (h : w.ownsRow base e size v n xs) : ∃ va vc, v = .slice va n vc := by
  rcases h.2 with ⟨h1, h2⟩ | ⟨g, cap, cur, h1, _⟩
  · exact ⟨none, 0, by rw [h1, h2]⟩
  · exact ⟨_, cap, h1⟩
theorem holds_set2 {w : World} {ok ok' : Nat → Prop} {ts : List Ty} {v : Value} {g : Nat} (h : Holds w ok ts v) (hg : ∀ b, b < w.heap.size → ok b → b ≠ g ∧ ok' b) (i j : Nat) (x y : Value) : Holds ((w.setCell ⟨g, i, none⟩ x).setCell ⟨g, j, none⟩ y) ok' ts v :=
  h.keep fun b hb ho => ⟨(Below.heap_setCell _ ⟨g, j, none⟩ y b (hg b hb ho).1).trans (Below.heap_setCell w ⟨g, i, none⟩ x b (hg b hb ho).1), (hg b hb ho).2⟩

set_option maxRecDepth 100000 in
set_option maxHeartbeats 1600000 in
theorem freshAll_calls (ok : Nat → Prop) (ls : List (Value × List Ty)) (G : Nat) (w : World) (hG : ∀ i p, ls[i]? = some p → w.cell? ⟨G, i, none⟩ = some p.1 ∧ Holds w ok p.2 p.1) (hm : ls.length ≤ 4) (htot : (flat ls).length ≤ 1000000) (IH : ∀ t ∈ flat ls, FreshAt t) :
    Calls Try.prog 67 #[.slice (some ⟨G, 0, none⟩) ls.length ls.length] w fun e w' => ∃ v, e = .returned v ∧ Holds w' (fun b => w.heap.size ≤ b) (flat ls) v ∧ Below w.heap.size w w' := by
  have HI : Hid _ := IH
  clear IH
  obtain ⟨N, hN⟩ : ∃ N, w.heap.size = N := ⟨_, rfl⟩
  rw [hN]
  go_enter Try.func67, Try.ntmps67
  go_wp2_with (go_at_call 60; refine (Concat_calls ok ls G _ hG hm htot).mono ?_; rintro e w1 ⟨v1, qs, rfl, hrow, hqs, hkid, hb1⟩; obtain ⟨va, vc, rfl⟩ := row_shape hrow)
  rw [hN] at hrow hb1
  have HQ : Hid (qs.map (·.2) = flat ls) := hqs
  have hql : qs.length ≤ 1000000 := by rw [← hqs, List.length_map] at htot; exact htot
  have HK : Hid _ := hkid
  clear hqs hkid hG htot
  go_loopw [10] (fun i wr => ∃ (k : Nat) (rs : List (Value × Ty)), k ≤ qs.length ∧ i = .int .i64 k ∧ Hid (rs.length = k) ∧ Hid (rs.map (·.2) = (qs.take k).map (·.2)) ∧ wr.ownsRow N 32 2 (.slice va qs.length vc) qs.length (pcells (rs ++ qs.drop k)) ∧ (∀ p ∈ rs, Holds wr (fun b => N ≤ b ∧ (Value.slice va qs.length vc).ownBlock ≠ some b) p.2.args p.1) ∧ Below N w wr)
    (fun i _ => qs.length - (intOf i).toNat)
  case atStart => exact ⟨0, [], Nat.zero_le _, rfl, rfl, rfl, by simpa using hrow, (fun p hp => by cases hp), hb1⟩
  case round =>
    clear hrow hb1
    obtain ⟨k, rs, hk, rfl, HR, HS, hrow, hkid, hbl⟩ := hrel
    have hNw : N ≤ wr.heap.size := by have := hbl.size; omega
    by_cases hlt : k < qs.length
    · obtain ⟨p, hp⟩ : ∃ p, qs[k]? = some p := ⟨_, List.getElem?_eq_getElem hlt⟩
      obtain ⟨g, vc', e1, hNg, hgl⟩ := hrow.form (by omega)
      cases e1
      have hdr : qs.drop k = p :: qs.drop (k + 1) := by
        obtain ⟨hl, he⟩ := List.getElem?_eq_some_iff.1 hp
        rw [List.drop_eq_getElem_cons hl, he]
      rw [hdr] at hrow
      have hc := World.ownsRow.cellAt hrow
      have hg0 : (pcells (rs ++ p :: qs.drop (k + 1)))[k * 2]? = some p.1 ∧ (pcells (rs ++ p :: qs.drop (k + 1)))[k * 2 + 1]? = some (.int .i64 p.2.base) := by
        apply pcells_get
        rw [← HR.out, List.getElem?_append_right (Nat.le_refl _)]
        simp
      have c0 : wr.cell? ⟨g, k * 2, none⟩ = some p.1 := (hc _ (by omega)).trans hg0.1
      have c1 : wr.cell? ⟨g, k * 2 + 1, none⟩ = some (.int .i64 p.2.base) := (hc _ (by omega)).trans hg0.2
      have hpm := List.mem_of_getElem? hp
      have hpH : Holds wr ok p.2.args p.1 := (HK.out p hpm).bel (by rw [hN]; exact hbl)
      have hfr := HI.out p.2 (by rw [← HQ.out]; exact List.mem_map_of_mem hpm)
      obtain ⟨sa, sc, hps, _⟩ := hpH.shape
      have y1 : (0 : Int) ≤ (k : Int) := by omega
      have y2 : (k : Int) < (qs.length : Int) := by omega
      have HS2 : Hid (rs.map (·.2) ++ [p.2] = (qs.take (k + 1)).map (·.2)) := by show _ = _; rw [HS.out, List.take_add_one, hp]; simp
      have hpc := hfr ok p.1 (wr.alloc (.cells #[p.1, .int .i64 p.2.base] 32)) (hpH.alloc _)
      have hrow1 := hrow.alloc (.cells #[p.1, .int .i64 p.2.base] 32)
      have hb1 : Below wr.heap.size wr (wr.alloc (.cells #[p.1, .int .i64 p.2.base] 32)) := (Below.refl _ _).alloc (Nat.le_refl _) _
      rw [hps] at c0 hpc hrow1 hb1
      clear hp hdr hg0 hc hfr HS hpH
      have d0 := (cat hb1 hgl).trans c0
      have d1 := (cat hb1 hgl).trans c1
      have hgl1 := Nat.lt_of_lt_of_le hgl hb1.size
      go_wp2_with (go_at_call 89; refine hpc.mono ?_; rintro e w2 ⟨v2, rfl, hv2, hb2⟩; obtain ⟨ta, tc, rfl, _⟩ := hv2.shape; have e0 := (cat hb2 hgl1).trans d0; have e1 := (cat hb2 hgl1).trans d1; have hrow2 := row_below hrow1 hb2; have f0 := row_frozen hrow2 (k * 2); have f1 := row_frozen hrow2 (k * 2 + 1))
      generalize p.2.args.length = un at *
      have hB2 : Below N w w2 := (hbl.alloc hNw _).trans (hb2.mono (by simp; omega))
      have hB3 : Below N w ((w2.setCell ⟨g, k * 2, none⟩ (.slice ta un tc)).setCell ⟨g, k * 2 + 1, none⟩ (.int .i64 p.2.base)) := bset (bset hB2 hNg _) hNg _
      have hrow3 := row_set (row_set hrow2 (k * 2) (.slice ta un tc)) (k * 2 + 1) (.int .i64 p.2.base)
      rw [show (pcells (rs ++ p :: qs.drop (k + 1))).set (k * 2) (.slice ta un tc) = (pcells (rs ++ p :: qs.drop (k + 1))).set (rs.length * 2) (.slice ta un tc) by rw [HR.out]] at hrow3
      have hk2 : Hid (((pcells (rs ++ p :: qs.drop (k + 1))).set (rs.length * 2) (.slice ta un tc)).set (k * 2 + 1) (.int .i64 p.2.base) = pcells ((rs ++ [(.slice ta un tc, p.2)]) ++ qs.drop (k + 1))) := by
        show _ = _
        rw [← HR.out, pcells_set, List.append_assoc]
        rfl
      rw [hk2.out] at hrow3
      have hkid2 : ∀ q ∈ rs ++ [(.slice ta un tc, p.2)], Holds ((w2.setCell ⟨g, k * 2, none⟩ (.slice ta un tc)).setCell ⟨g, k * 2 + 1, none⟩ (.int .i64 p.2.base)) (fun b => N ≤ b ∧ (Value.slice (some ⟨g, 0, none⟩) qs.length vc).ownBlock ≠ some b) q.2.args q.1 := by
        intro q hq
        rcases List.mem_append.1 hq with hq | hq
        · exact holds_set2 (((hkid q hq).alloc _).bel hb2) (fun b _ ho => ⟨fun e => ho.2 (by rw [e]; rfl), ho⟩) _ _ _ _
        · rw [List.mem_singleton.1 hq]
          refine holds_set2 hv2 (fun b _ ho => ?_) _ _ _ _
          have ho' : wr.heap.size + 1 ≤ b := by simpa using ho
          have hbg : b ≠ g := by omega
          exact ⟨hbg, by omega, fun e => hbg (by cases e; rfl)⟩
      clear hrow hrow1 hrow2 hkid hbl hb2 hB2 hv2 hb1 hpc c0 c1 d0 d1 e0 e1 f0 f1 hk2
      generalize (w2.setCell ⟨g, k * 2, none⟩ (.slice ta un tc)).setCell ⟨g, k * 2 + 1, none⟩ (.int .i64 p.2.base) = W3 at *
      go_roundw
      case rel => exact ⟨k + 1, rs ++ [(.slice ta un tc, p.2)], by omega, by go_num, by show _ = _; rw [List.length_append, HR.out]; rfl, by show _ = _; rw [List.map_append]; exact HS2.out, hrow3, hkid2, hB3⟩
      case measure => simp [intOf]; omega
    · obtain rfl : k = qs.length := by omega
      go_wp2
      go_ret
      refine ⟨_, rfl, ?_, hbl⟩
      rw [List.drop_length, List.append_nil] at hrow
      rw [List.take_length, HQ.out] at HS
      rw [← HS.out]
      refine holds_of_row (M := N) (e := 32) (by rw [HR.out]; exact hrow) (fun p hp => (hkid p hp).mono fun b _ h => h.1) (fun b h => h)

theorem freshAll_one (ok : Nat → Prop) (sl : Value) (ts : List Ty) (G : Nat) (w : World) (hc : w.cell? ⟨G, 0, none⟩ = some sl) (hh : Holds w ok ts sl) (htot : ts.length ≤ 1000000) (IH : ∀ t ∈ ts, FreshAt t) :
    Calls Try.prog 67 #[.slice (some ⟨G, 0, none⟩) 1 1] w fun e w' => ∃ v, e = .returned v ∧ Holds w' (fun b => w.heap.size ≤ b) ts v ∧ Below w.heap.size w w' := by
  have := freshAll_calls ok [(sl, ts)] G w (fun i p hi => by
    match i with
    | 0 => simp at hi; subst hi; exact ⟨hc, hh⟩
    | i + 1 => simp at hi) (by simp) (by simpa [flat] using htot) (by simpa [flat] using IH)
  simpa [flat] using this
theorem freshAll_two (ok : Nat → Prop) (sl sl' : Value) (ts us : List Ty) (G : Nat) (w : World) (hc : w.cell? ⟨G, 0, none⟩ = some sl) (hc' : w.cell? ⟨G, 1, none⟩ = some sl') (hh : Holds w ok ts sl) (hh' : Holds w ok us sl') (htot : ts.length + us.length ≤ 1000000) (IH : ∀ t, t ∈ ts ∨ t ∈ us → FreshAt t) :
    Calls Try.prog 67 #[.slice (some ⟨G, 0, none⟩) 2 2] w fun e w' => ∃ v, e = .returned v ∧ Holds w' (fun b => w.heap.size ≤ b) (ts ++ us) v ∧ Below w.heap.size w w' := by
  have := freshAll_calls ok [(sl, ts), (sl', us)] G w (fun i p hi => by
    match i with
    | 0 => simp at hi; subst hi; exact ⟨hc, hh⟩
    | 1 => simp at hi; subst hi; exact ⟨hc', hh'⟩
    | i + 2 => simp at hi) (by simp) (by simpa [flat] using htot) (fun t ht => IH t (by simpa [flat] using ht))
  simpa [flat] using this

set_option maxRecDepth 100000 in
set_option maxHeartbeats 1600000 in
theorem fresh_calls (t : Ty) : t.size ≤ 1000000 → FreshAt t := by
  induction t using Ty.ind with
  | h t ih =>
  intro hsz ok sl w hh
  have hs2 := t.size_eq
  have hl := sizeL_length t.args
  obtain ⟨ts, hts⟩ : ∃ ts, t.args = ts := ⟨_, rfl⟩
  rw [hts] at hh ih hs2 hl ⊢
  obtain ⟨a, cap, rfl, _⟩ := hh.shape
  obtain ⟨N, hN⟩ : ∃ N, w.heap.size = N := ⟨_, rfl⟩
  rw [hN]
  have hIH : Hid (∀ u ∈ ts, FreshAt u) := fun u hu => ih u hu (by have := size_mem hu; omega)
  clear ih
  go_enter Try.func89, Try.ntmps89
  go_wp2_with fail
  generalize hw0 : (w.alloc (.cells #[.slice a ts.length cap, .int .i64 t.base] 32)).alloc (.cells #[.slice none 0 0, .int .i64 0] 32) = w0
  have b0 : Blk w0 N 32 #[.slice a ts.length cap, .int .i64 t.base] := by rw [← hw0]; exact (Blk.new' w N 32 _ hN).alloc _
  have b1 : Blk w0 (N + 1) 32 #[.slice none 0 0, .int .i64 0] := by rw [← hw0]; exact Blk.new' _ (N + 1) 32 _ (by simp [hN])
  have hz : w0.heap.size = N + 1 + 1 := by rw [← hw0]; simp [hN]
  have bl0 : Below N w w0 := by rw [← hw0]; exact ((Below.refl N w).alloc (by omega) _).alloc (by simp; omega) _
  have hh0 : Holds w0 ok ts (.slice a ts.length cap) := hh.bel (by rw [hN]; exact bl0)
  clear hw0
  have c0 := b0.cell 0
  have c1 := b0.cell 1
  have s0 := b1.cell 0
  have s1 := b1.cell 1
  have f0 := b1.frozen 0
  have f1 := b1.frozen 1
  have hcall : Hid (∀ d, d = w0.drew → Calls Try.prog 67 #[.slice (some ⟨N + 1 + 1, 0, none⟩) 1 1] (d.alloc (.cells #[.slice a ts.length cap] 30)) fun e w' => ∃ va vc, e = .returned (.slice va ts.length vc) ∧ Holds w' (fun b => N + 1 + 1 ≤ b) ts (.slice va ts.length vc) ∧ Below (N + 1 + 1) w0 w') := by
    rintro d rfl
    have hz' : w0.drew.heap.size = N + 1 + 1 := hz
    have hb := Blk.new' w0.drew (N + 1 + 1) 30 #[.slice a ts.length cap] hz'
    refine (freshAll_one ok (.slice a ts.length cap) ts (N + 1 + 1) _ (hb.cell 0) (hh0.drew.alloc _) (by omega) hIH.out).mono ?_
    rintro e w' ⟨v, rfl, hv, hb'⟩
    obtain ⟨va, vc, rfl, _⟩ := hv.shape
    refine ⟨va, vc, rfl, hv.mono (fun b _ h => by simp at h; omega), ?_⟩
    exact (((Below.refl _ w0).drew).alloc (by show N + 1 + 1 ≤ w0.heap.size; omega) _).trans (hb'.mono (by simp; omega))
  go_region_law (go_simp; go_at_call 67; refine (hcall.out _ rfl).mono ?_; rintro e w2 ⟨va, vc, rfl, hv, hb2⟩; have e1 := (cat hb2 (show N < N + 1 + 1 by omega)).trans c1; have d0 := (cat hb2 (show N + 1 < N + 1 + 1 by omega)).trans s0; have d1 := (cat hb2 (show N + 1 < N + 1 + 1 by omega)).trans s1; have hB2 := b1.below hb2 (by omega); have g0 := hB2.frozen 0; have g1 := hB2.frozen 1)
  all_goals
    have c9 := (hB2.set 0 (.slice va ts.length vc)).set 1 (.int .i64 t.base)
    have hH9 : Holds ((w2.setCell ⟨N + 1, 0, none⟩ (.slice va ts.length vc)).setCell ⟨N + 1, 1, none⟩ (.int .i64 t.base)) (fun b => N ≤ b) ts (.slice va ts.length vc) := holds_set2 hv (fun b _ ho => ⟨by omega, by omega⟩) _ _ _ _
    have hB9 : Below N w ((w2.setCell ⟨N + 1, 0, none⟩ (.slice va ts.length vc)).setCell ⟨N + 1, 1, none⟩ (.int .i64 t.base)) := bset (bset (bl0.trans (hb2.mono (by omega))) (by omega) _) (by omega) _
    clear hv hb2 e1 d0 d1 hB2 g0 g1
    generalize (w2.setCell ⟨N + 1, 0, none⟩ (.slice va ts.length vc)).setCell ⟨N + 1, 1, none⟩ (.int .i64 t.base) = W5 at *
    go_wp2
    have d0 : W5.cell? ⟨N + 1, 0, none⟩ = some (.slice va ts.length vc) := c9.cell 0
    have d1 : W5.cell? ⟨N + 1, 1, none⟩ = some (.int .i64 t.base) := c9.cell 1
    exact bodyPost_ret (v := tv (.slice va ts.length vc) t.base) (by simp [results, Try.results89, go_sem, d0, d1]) rfl ⟨_, rfl, hH9, hB9⟩

end Go.Proofs.Ytckagmagjogmnaa
