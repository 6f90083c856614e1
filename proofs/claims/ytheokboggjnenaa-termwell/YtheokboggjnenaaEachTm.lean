/-
  The contracts of slices.Clone and term.each of terms.
-/
import Derived.Test.YtheokboggjnenaaToT
import Derived.Test.YtheokboggjnenaaEachT
namespace Go.Proofs.Ytheokboggjnenaa
open Go Go.RowKit

theorem tcells_inv (a : List Tc) (j : Nat) (u : Value) (h : (tcells a)[j]? = some u) : ∃ i p, a[i]? = some p ∧ ((j = i * 4 ∧ u = p.sb) ∨ (j = i * 4 + 1 ∧ u = .int .i64 p.t.kind) ∨ (j = i * 4 + 2 ∧ u = .int .i64 p.t.idx) ∨ (j = i * 4 + 3 ∧ u = p.sr)) := by
  induction a generalizing j with
  | nil => simp [tcells] at h
  | cons q a ih =>
    match j, h with
    | 0, h => cases h; exact ⟨0, q, rfl, .inl ⟨rfl, rfl⟩⟩
    | 1, h => cases h; exact ⟨0, q, rfl, .inr (.inl ⟨rfl, rfl⟩)⟩
    | 2, h => cases h; exact ⟨0, q, rfl, .inr (.inr (.inl ⟨rfl, rfl⟩))⟩
    | 3, h => cases h; exact ⟨0, q, rfl, .inr (.inr (.inr ⟨rfl, rfl⟩))⟩
    | j + 4, h =>
      obtain ⟨i, p, hp, hh⟩ := ih j (by simpa [tcells] using h)
      refine ⟨i + 1, p, by simpa using hp, ?_⟩
      rcases hh with ⟨e, hu⟩ | ⟨e, hu⟩ | ⟨e, hu⟩ | ⟨e, hu⟩
      · exact .inl ⟨by omega, hu⟩
      · exact .inr (.inl ⟨by omega, hu⟩)
      · exact .inr (.inr (.inl ⟨by omega, hu⟩))
      · exact .inr (.inr (.inr ⟨by omega, hu⟩))

/-- The cells of a slice of terms, as a list. -/
theorem HoldsT.row {w : World} {ok : Nat → Prop} {ts : List Tm} {g o n cap : Nat} (h : HoldsT w ok ts (.slice (some ⟨g, o, none⟩) n cap)) :
    n = ts.length ∧ ∃ qs : List Tc, qs.map (·.t) = ts ∧ (∀ p ∈ qs, Holds w ok p.t.binds p.sb ∧ HoldsT w ok p.t.args p.sr) ∧ (∀ j u, (tcells qs)[j]? = some u → w.cell? ⟨g, o + j, none⟩ = some u) ∧ ∀ u ∈ tcells qs, u.oneCell' = true := by
  generalize hv : Value.slice (some ⟨g, o, none⟩) n cap = v at h
  cases h with
  | mk ts a' cap' f r hcap hnil hc hb hr =>
    cases hv
    have hget : ∀ i p, (ts.mapIdx (fun i t => (⟨f i, r i, t⟩ : Tc)))[i]? = some p → ts[i]? = some p.t ∧ p.sb = f i ∧ p.sr = r i := by
      intro i p hp
      rw [List.getElem?_mapIdx] at hp
      obtain ⟨t, ht, rfl⟩ := Option.map_eq_some_iff.1 hp
      exact ⟨ht, rfl, rfl⟩
    have hcell : ∀ j u, (tcells (ts.mapIdx (fun i t => (⟨f i, r i, t⟩ : Tc))))[j]? = some u → w.cell? ⟨g, o + j, none⟩ = some u ∧ u.oneCell' = true := by
      intro j u hj
      obtain ⟨i, p, hp, hh⟩ := tcells_inv _ j u hj
      obtain ⟨ht, hf, hrr⟩ := hget i p hp
      obtain ⟨g', o', e, _, c0, c1, c2, c3⟩ := hc i p.t ht
      cases e
      rcases hh with ⟨rfl, rfl⟩ | ⟨rfl, rfl⟩ | ⟨rfl, rfl⟩ | ⟨rfl, rfl⟩
      · obtain ⟨a1, cp, hs, _⟩ := (hb i p.t ht).shape
        exact ⟨by rw [hf]; exact c0, by rw [hf, hs]; rfl⟩
      · exact ⟨by rw [← c1]; congr 2, rfl⟩
      · exact ⟨by rw [← c2]; congr 2, rfl⟩
      · obtain ⟨a1, cp, hs, _⟩ := (hr i p.t ht).shape
        exact ⟨by rw [hrr, ← c3]; congr 2, by rw [hrr, hs]; rfl⟩
    refine ⟨rfl, _, ?_, ?_, fun j u hj => (hcell j u hj).1, ?_⟩
    · apply List.ext_getElem?
      intro i
      rw [List.getElem?_map, List.getElem?_mapIdx]
      cases ts[i]? <;> rfl
    · intro p hp
      obtain ⟨i, hi⟩ := List.getElem?_of_mem hp
      obtain ⟨ht, hf, hrr⟩ := hget i p hi
      rw [hf, hrr]; exact ⟨hb i p.t ht, hr i p.t ht⟩
    · intro u hu
      obtain ⟨j, hj⟩ := List.getElem?_of_mem hu
      exact (hcell j u hj).2
theorem HoldsT.isnil {w : World} {ok : Nat → Prop} {ts : List Tm} {n cap : Nat} (h : HoldsT w ok ts (.slice none n cap)) : n = 0 ∧ cap = 0 ∧ ts = [] := by
  generalize hv : Value.slice none n cap = v at h
  cases h with
  | mk ts a' cap' f r hcap hnil hc hb hr =>
    cases hv
    have h0 := hnil rfl
    have h1 : ts.length = 0 := by omega
    exact ⟨h1, h0, List.eq_nil_of_length_eq_zero h1⟩

set_option maxRecDepth 100000 in
set_option maxHeartbeats 1600000 in
theorem CloneTm_calls (ts : List Tm) (ok : Nat → Prop) (sl : Value) (w : World) (hh : HoldsT w ok ts sl) (hl : ts.length ≤ 1000000) :
    Calls Try.prog 136 #[sl] w fun e w' => ∃ v ps, e = .returned v ∧ w'.ownsRow w.heap.size 34 4 v ps.length (tcells ps) ∧ ps.map (·.t) = ts ∧ (∀ p ∈ ps, Holds w ok p.t.binds p.sb ∧ HoldsT w ok p.t.args p.sr) ∧ Below w.heap.size w w' := by
  obtain ⟨i0, hi, hz0, hz1, hz2⟩ := info_parts info34
  obtain ⟨pa, pc, rfl, _⟩ := hh.shape
  obtain ⟨N, hN⟩ : ∃ N, w.heap.size = N := ⟨_, rfl⟩
  rw [hN]
  cases pa with
  | none =>
    obtain ⟨e0, e1, e2⟩ := hh.isnil
    subst e2
    have e3 : pc = 0 := e1
    subst e3
    clear hh e0 e1
    have hn : ∀ w, Sem.run Try.prog (binOp BinOp.eql 32 (.slice none 0 0) (.slice none 0 0)) w = .ok (.bool true) w := fun w => by kernel_rfl
    go_enter Try.func136, Try.ntmps136
    go_wp2
    go_ret
    exact ⟨_, [], rfl, World.ownsRow_nil w N 34 4, rfl, (fun p hp => by cases hp), hN ▸ Below.refl _ _⟩
  | some ad =>
    obtain ⟨qs, hq1, hq2, hq3, hq4⟩ : ∃ qs : List Tc, qs.map (·.t) = ts ∧ (∀ p ∈ qs, Holds w ok p.t.binds p.sb ∧ HoldsT w ok p.t.args p.sr) ∧ (∀ j u, (tcells qs)[j]? = some u → w.cell? (ad.add j) = some u) ∧ ∀ u ∈ tcells qs, u.oneCell' = true := by
      cases hpe : ts with
      | nil => exact ⟨[], rfl, fun p hp => (by cases hp), fun j u h => by simp [tcells] at h, fun u h => by simp [tcells] at h⟩
      | cons t r =>
        obtain ⟨a', cap', e1, _, hat⟩ := hh.shape
        obtain ⟨g, o, _, _, e2, _⟩ := hat 0 t (by rw [hpe]; rfl)
        cases e1
        cases e2
        obtain ⟨_, qs, h1, h2, h3, h4⟩ := hh.row
        exact ⟨qs, by rw [← hpe]; exact h1, h2, fun j u hj => by have := h3 j u hj; rwa [show (⟨g, o, none⟩ : Addr).add j = ⟨g, o + j, none⟩ by simp [Addr.add]], h4⟩
    have hql : qs.length = ts.length := by rw [← hq1, List.length_map]
    rw [← hql] at hl ⊢
    have HQ : Hid (qs.map (·.t) = ts) := hq1
    have HK : Hid _ := hq2
    clear hh hq1 hq2 hql
    have hn : ∀ (n c : Nat) w, Sem.run Try.prog (binOp BinOp.eql 32 (.slice (some ad) n c) (.slice none 0 0)) w = .ok (.bool false) w := fun n c w => by kernel_rfl
    obtain ⟨W0, hW0⟩ : ∃ W0, w.alloc (.cells #[] 34) = W0 := ⟨_, rfl⟩
    have hrow : W0.ownsRow N 34 4 (.slice (some ⟨N, 0, none⟩) 0 0) 0 (tcells []) := by
      have hb0 := Blk.new' w N 34 #[] hN
      rw [hW0] at hb0
      exact ⟨rfl, .inr ⟨N, 0, #[], rfl, Nat.le_refl _, hb0, Nat.le_refl _, Nat.zero_le _, rfl, rfl⟩⟩
    have hbl : Below N w W0 := by rw [← hW0]; exact (Below.refl N w).alloc (by omega) _
    have hq5 : ∀ j u, (tcells qs)[j]? = some u → W0.cell? (ad.add j) = some u := fun j u hj => by
      have h0 := hq3 j u hj
      exact (hbl.cell (p := ad.add j) (by have := lt_of_cell h0; omega)).trans h0
    have hNw : N ≤ W0.heap.size := by have := hbl.size; omega
    have HW : Hid _ := hW0
    clear hW0 hq3
    go_enter Try.func136, Try.ntmps136
    go_wp2_with (at_builtin; rw [HW.out]; refine wpList_append_own _ rfl _ _ 32 rfl N 34 i0 _ 4 64 Try.underlying32 hi hz0 hz1 hz2 rfl (by decide) _ 0 (tcells []) rfl hrow ad qs.length pc (tcells qs) rfl (tcells_length qs) hq5 hq4 (by unfold maxLen; omega) (by omega) hNw ?_; intro v2 w2 hown2 hgrow2 _)
    have hb2 : Below N w w2 := hbl.grown hgrow2 (by omega) (fun j hj => (hrow.lt j hj).1)
    clear hgrow2
    go_wp2
    go_ret
    exact ⟨v2, qs, rfl, by simpa [tcells] using hown2, HQ.out, HK.out, hb2⟩

theorem tcells_set (rs : List Tc) (p : Tc) (r : List Tc) (x : Tc) :
    ((((tcells (rs ++ p :: r)).set (rs.length * 4) x.sb).set (rs.length * 4 + 1) (.int .i64 x.t.kind)).set (rs.length * 4 + 2) (.int .i64 x.t.idx)).set (rs.length * 4 + 3) x.sr = tcells (rs ++ x :: r) := by
  rw [tcells_append, tcells_append]
  have hl := tcells_length rs
  rw [List.set_append_right _ _ (by omega), List.set_append_right _ _ (by omega), List.set_append_right _ _ (by omega), List.set_append_right _ _ (by omega)]
  rw [show rs.length * 4 - (tcells rs).length = 0 by omega, show rs.length * 4 + 1 - (tcells rs).length = 1 by omega, show rs.length * 4 + 2 - (tcells rs).length = 2 by omega, show rs.length * 4 + 3 - (tcells rs).length = 3 by omega]
  rfl
theorem holdsT_of_row {w : World} {M : Nat} {e : TypeId} {v : Value} {ps : List Tc} {ok : Nat → Prop} (h' : w.ownsRow M e 4 v ps.length (tcells ps)) (hb : ∀ p ∈ ps, Holds w ok p.t.binds p.sb) (hk : ∀ p ∈ ps, HoldsT w ok p.t.args p.sr) (hM : ∀ b, M ≤ b → ok b) : HoldsT w ok (ps.map (·.t)) v := by
  obtain ⟨h1, h2⟩ := h'
  rcases h2 with ⟨rfl, h2⟩ | ⟨g, cap, cur, rfl, e2, e3, e4, e5, e6⟩
  · have : ps = [] := List.eq_nil_of_length_eq_zero h2
    subst this
    exact HoldsT.nil _ _ _ _ (fun _ => rfl)
  · have hc := World.ownsRow.cellAt (show w.ownsRow M e 4 (.slice (some ⟨g, 0, none⟩) ps.length cap) ps.length (tcells ps) from ⟨h1, .inr ⟨g, cap, cur, rfl, e2, e3, e4, e5, e6⟩⟩)
    have hq : ∀ (i : Nat) (u : Tm), (ps.map (·.t))[i]? = some u → ∃ p : Tc, ps[i]? = some p ∧ p.t = u := by
      intro i u hi
      rw [List.getElem?_map] at hi
      exact Option.map_eq_some_iff.1 hi
    have := HoldsT.mk (w := w) (ok := ok) (ps.map (·.t)) (some ⟨g, 0, none⟩) cap (fun i => ((ps[i]?).map (·.sb)).getD undef) (fun i => ((ps[i]?).map (·.sr)).getD undef) (by simpa using e4) (fun h => by cases h)
      (fun i u hi => by
        obtain ⟨p, hp, rfl⟩ := hq i u hi
        obtain ⟨c0, c1, c2, c3⟩ := tcells_get ps i p hp
        have hil := (List.getElem?_eq_some_iff.1 hp).1
        refine ⟨g, 0, rfl, hM g e2, ?_, ?_, ?_, ?_⟩
        · rw [Nat.zero_add, hc _ (by omega), c0, hp]; rfl
        · rw [Nat.zero_add, hc _ (by omega), c1]
        · rw [Nat.zero_add, hc _ (by omega), c2]
        · rw [Nat.zero_add, hc _ (by omega), c3, hp]; rfl)
      (fun i u hi => by
        obtain ⟨p, hp, rfl⟩ := hq i u hi
        rw [hp]
        exact hb p (List.mem_of_getElem? hp))
      (fun i u hi => by
        obtain ⟨p, hp, rfl⟩ := hq i u hi
        rw [hp]
        exact hk p (List.mem_of_getElem? hp))
    rwa [List.length_map] at this
theorem holdsT_set4' {w : World} {ok ok' : Nat → Prop} {ts : List Tm} {v : Value} {g : Nat} (h : HoldsT w ok ts v) (hg : ∀ b, b < w.heap.size → ok b → b ≠ g ∧ ok' b) (i j k l : Nat) (x0 x1 x2 x3 : Value) : HoldsT ((((w.setCell ⟨g, i, none⟩ x0).setCell ⟨g, j, none⟩ x1).setCell ⟨g, k, none⟩ x2).setCell ⟨g, l, none⟩ x3) ok' ts v :=
  h.keep fun b hb ho => ⟨(Below.heap_setCell _ ⟨g, l, none⟩ x3 b (hg b hb ho).1).trans ((Below.heap_setCell _ ⟨g, k, none⟩ x2 b (hg b hb ho).1).trans ((Below.heap_setCell _ ⟨g, j, none⟩ x1 b (hg b hb ho).1).trans (Below.heap_setCell w ⟨g, i, none⟩ x0 b (hg b hb ho).1))), (hg b hb ho).2⟩
theorem holds_set4' {w : World} {ok ok' : Nat → Prop} {ts : List Ty} {v : Value} {g : Nat} (h : Holds w ok ts v) (hg : ∀ b, b < w.heap.size → ok b → b ≠ g ∧ ok' b) (i j k l : Nat) (x0 x1 x2 x3 : Value) : Holds ((((w.setCell ⟨g, i, none⟩ x0).setCell ⟨g, j, none⟩ x1).setCell ⟨g, k, none⟩ x2).setCell ⟨g, l, none⟩ x3) ok' ts v :=
  h.keep fun b hb ho => ⟨(Below.heap_setCell _ ⟨g, l, none⟩ x3 b (hg b hb ho).1).trans ((Below.heap_setCell _ ⟨g, k, none⟩ x2 b (hg b hb ho).1).trans ((Below.heap_setCell _ ⟨g, j, none⟩ x1 b (hg b hb ho).1).trans (Below.heap_setCell w ⟨g, i, none⟩ x0 b (hg b hb ho).1))), (hg b hb ho).2⟩

/-- What is called of each term: it tells the term that m makes of it, in new memory. -/
def MapsAt (f : Nat) (caps : Array Value) (W : World) (m : Tm → Tm) (u : Tm) : Prop := ∀ (ok : Nat → Prop) (sb sr : Value) (cur : World), Cur W cur → Holds cur ok u.binds sb → HoldsT cur ok u.args sr →
    Calls Try.prog f (#[tmv sb u.kind u.idx sr] ++ caps) cur fun e w' => ∃ vb vr, e = .returned (tmv vb (m u).kind (m u).idx vr) ∧ Holds w' (fun b => cur.heap.size ≤ b) (m u).binds vb ∧ HoldsT w' (fun b => cur.heap.size ≤ b) (m u).args vr ∧ Below cur.heap.size cur w'

set_option maxRecDepth 100000 in
set_option maxHeartbeats 3200000 in
theorem eachTm_calls (ts : List Tm) (m : Tm → Tm) (ok : Nat → Prop) (sl p1 p2 : Value) (w : World) (hh : HoldsT w ok ts sl) (hln : ts.length ≤ 1000000) (hF : ∀ u ∈ ts, MapsAt 113 #[p1, p2] w m u) :
    Calls Try.prog 112 #[sl, .func (.func 113) #[] #[p1, p2]] w fun e w' => ∃ v, e = .returned v ∧ HoldsT w' (fun b => w.heap.size ≤ b) (ts.map m) v ∧ Below w.heap.size w w' := by
  have HI : Hid _ := hF
  have hcl := CloneTm_calls ts ok sl w hh (by omega)
  obtain ⟨N, hN⟩ : ∃ N, w.heap.size = N := ⟨_, rfl⟩
  rw [hN]
  obtain ⟨la, lc, rfl, _⟩ := hh.shape
  generalize hlt : ts.length = ln at *
  clear hh hF
  go_enter Try.func112, Try.ntmps112
  go_wp2_with fail
  refine hcl.mono ?_
  rintro e w1 ⟨v1, qs, rfl, hrow, hqs, hkid, hb1⟩
  obtain ⟨va, vc, rfl⟩ := row_shape hrow
  rw [hN] at hrow hb1
  have HQ : Hid (qs.map (·.t) = ts) := hqs
  have hql : qs.length ≤ 1000000 := by have := congrArg List.length hqs; rw [List.length_map] at this; omega
  have HK : Hid _ := hkid
  clear hqs hkid hln hlt hcl
  go_wp2_with fail
  go_loopw [12] (fun i wr => ∃ (k : Nat) (rs : List Tc), k ≤ qs.length ∧ i = .int .i64 k ∧ Hid (rs.length = k) ∧ Hid (rs.map (·.t) = (qs.take k).map (fun p => m p.t)) ∧ wr.ownsRow N 34 4 (.slice va qs.length vc) qs.length (tcells (rs ++ qs.drop k)) ∧ (∀ p ∈ rs, Holds wr (fun b => N ≤ b ∧ (Value.slice va qs.length vc).ownBlock ≠ some b) p.t.binds p.sb ∧ HoldsT wr (fun b => N ≤ b ∧ (Value.slice va qs.length vc).ownBlock ≠ some b) p.t.args p.sr) ∧ Below N w wr)
    (fun i _ => qs.length - (intOf i).toNat)
  case atStart => exact ⟨0, [], Nat.zero_le _, rfl, rfl, rfl, by simpa using hrow, (fun p hp => by cases hp), hb1⟩
  case round =>
    clear hrow hb1
    obtain ⟨k, rs, hk, rfl, HR, HS, hrow, hkid, hbl⟩ := hrel
    have hNw : N ≤ wr.heap.size := by have := hbl.size; omega
    by_cases hlt : k < qs.length
    · obtain ⟨p, hp⟩ : ∃ p, qs[k]? = some p := ⟨_, List.getElem?_eq_getElem hlt⟩
      obtain ⟨g, vc', e1, hNg, hgl⟩ := hrow.form (by omega)
      cases e1
      have hdr : qs.drop k = p :: qs.drop (k + 1) := by
        obtain ⟨hl, he⟩ := List.getElem?_eq_some_iff.1 hp
        rw [List.drop_eq_getElem_cons hl, he]
      rw [hdr] at hrow
      have hc := World.ownsRow.cellAt hrow
      have hg0 := tcells_get (rs ++ p :: qs.drop (k + 1)) k p (by rw [← HR.out, List.getElem?_append_right (Nat.le_refl _)]; simp)
      have c0 : wr.cell? ⟨g, k * 4, none⟩ = some p.sb := (hc _ (by omega)).trans hg0.1
      have c1 : wr.cell? ⟨g, k * 4 + 1, none⟩ = some (.int .i64 p.t.kind) := (hc _ (by omega)).trans hg0.2.1
      have c2 : wr.cell? ⟨g, k * 4 + 2, none⟩ = some (.int .i64 p.t.idx) := (hc _ (by omega)).trans hg0.2.2.1
      have c3 : wr.cell? ⟨g, k * 4 + 3, none⟩ = some p.sr := (hc _ (by omega)).trans hg0.2.2.2
      have hpm := List.mem_of_getElem? hp
      have hbw : Below w.heap.size w wr := by rw [hN]; exact hbl
      have hpB : Holds wr ok p.t.binds p.sb := (HK.out p hpm).1.bel hbw
      have hpH : HoldsT wr ok p.t.args p.sr := (HK.out p hpm).2.bel hbw
      have hcu : Cur w (wr.alloc (.cells #[p.sb, .int .i64 p.t.kind, .int .i64 p.t.idx, p.sr] 34)) := Cur.alloc hbw _
      have hpc := HI.out p.t (by rw [← HQ.out]; exact List.mem_map_of_mem hpm) ok p.sb p.sr (wr.alloc (.cells #[p.sb, .int .i64 p.t.kind, .int .i64 p.t.idx, p.sr] 34)) hcu (hpB.alloc _) (hpH.alloc _)
      obtain ⟨sa, sc, hps, _⟩ := hpB.shape
      obtain ⟨sd, se, hpr, _⟩ := hpH.shape
      have y1 : (0 : Int) ≤ (k : Int) := by omega
      have y2 : (k : Int) < (qs.length : Int) := by omega
      have HS2 : Hid (rs.map (·.t) ++ [m p.t] = (qs.take (k + 1)).map (fun p => m p.t)) := by show _ = _; rw [HS.out, List.take_add_one, hp]; simp
      have hrow1 := hrow.alloc (.cells #[p.sb, .int .i64 p.t.kind, .int .i64 p.t.idx, p.sr] 34)
      have hb1 : Below wr.heap.size wr (wr.alloc (.cells #[p.sb, .int .i64 p.t.kind, .int .i64 p.t.idx, p.sr] 34)) := (Below.refl _ _).alloc (Nat.le_refl _) _
      rw [hps] at c0
      rw [hpr] at c3
      rw [hps, hpr] at hpc hrow1 hb1
      clear hp hdr hg0 hc HS hpH hpB hcu
      have d0 := (cat hb1 hgl).trans c0
      have d1 := (cat hb1 hgl).trans c1
      have d2 := (cat hb1 hgl).trans c2
      have d3 := (cat hb1 hgl).trans c3
      have hgl1 := Nat.lt_of_lt_of_le hgl hb1.size
      obtain ⟨v, hv⟩ : ∃ v, m p.t = v := ⟨_, rfl⟩
      rw [hv] at hpc HS2
      clear hv
      go_wp2_with (go_at_call 113; refine hpc.mono ?_; rintro e w2 ⟨vb2, vr2, rfl, hvb2, hvr2, hb2⟩; obtain ⟨ta, tc, rfl, _⟩ := hvb2.shape; obtain ⟨td, te, rfl, _⟩ := hvr2.shape; have e0 := (cat hb2 hgl1).trans d0; have e1 := (cat hb2 hgl1).trans d1; have e2 := (cat hb2 hgl1).trans d2; have e3 := (cat hb2 hgl1).trans d3; have hrow2 := row_below hrow1 hb2; have f0 := row_frozen hrow2 (k * 4); have f1 := row_frozen hrow2 (k * 4 + 1); have f2 := row_frozen hrow2 (k * 4 + 2); have f3 := row_frozen hrow2 (k * 4 + 3))
      generalize v.binds.length = un at *
      generalize v.args.length = um at *
      have hB2 : Below N w w2 := (hbl.alloc hNw _).trans (hb2.mono (by simp; omega))
      have hB3 : Below N w ((((w2.setCell ⟨g, k * 4, none⟩ (.slice ta un tc)).setCell ⟨g, k * 4 + 1, none⟩ (.int .i64 v.kind)).setCell ⟨g, k * 4 + 2, none⟩ (.int .i64 v.idx)).setCell ⟨g, k * 4 + 3, none⟩ (.slice td um te)) := bset (bset (bset (bset hB2 hNg _) hNg _) hNg _) hNg _
      have hrow3 := row_set (row_set (row_set (row_set hrow2 (k * 4) (.slice ta un tc)) (k * 4 + 1) (.int .i64 v.kind)) (k * 4 + 2) (.int .i64 v.idx)) (k * 4 + 3) (.slice td um te)
      have hk2 : Hid (((((tcells (rs ++ p :: qs.drop (k + 1))).set (k * 4) (.slice ta un tc)).set (k * 4 + 1) (.int .i64 v.kind)).set (k * 4 + 2) (.int .i64 v.idx)).set (k * 4 + 3) (.slice td um te) = tcells ((rs ++ [(⟨.slice ta un tc, .slice td um te, v⟩ : Tc)]) ++ qs.drop (k + 1))) := by
        show _ = _
        have h9 := tcells_set rs p (qs.drop (k + 1)) ⟨.slice ta un tc, .slice td um te, v⟩
        rw [HR.out] at h9
        rw [h9, List.append_assoc]
        rfl
      rw [hk2.out] at hrow3
      have hok2 : ∀ b, b < w2.heap.size → wr.heap.size + 1 ≤ b → b ≠ g ∧ N ≤ b ∧ (Value.slice (some ⟨g, 0, none⟩) qs.length vc).ownBlock ≠ some b := fun b _ ho => by
        have hbg : b ≠ g := by omega
        exact ⟨hbg, by omega, fun e => hbg (by cases e; rfl)⟩
      have hkid2 : ∀ q ∈ rs ++ [(⟨.slice ta un tc, .slice td um te, v⟩ : Tc)], Holds ((((w2.setCell ⟨g, k * 4, none⟩ (.slice ta un tc)).setCell ⟨g, k * 4 + 1, none⟩ (.int .i64 v.kind)).setCell ⟨g, k * 4 + 2, none⟩ (.int .i64 v.idx)).setCell ⟨g, k * 4 + 3, none⟩ (.slice td um te)) (fun b => N ≤ b ∧ (Value.slice (some ⟨g, 0, none⟩) qs.length vc).ownBlock ≠ some b) q.t.binds q.sb ∧ HoldsT ((((w2.setCell ⟨g, k * 4, none⟩ (.slice ta un tc)).setCell ⟨g, k * 4 + 1, none⟩ (.int .i64 v.kind)).setCell ⟨g, k * 4 + 2, none⟩ (.int .i64 v.idx)).setCell ⟨g, k * 4 + 3, none⟩ (.slice td um te)) (fun b => N ≤ b ∧ (Value.slice (some ⟨g, 0, none⟩) qs.length vc).ownBlock ≠ some b) q.t.args q.sr := by
        intro q hq
        rcases List.mem_append.1 hq with hq | hq
        · exact ⟨holds_set4' (((hkid q hq).1.alloc _).bel hb2) (fun b _ ho => ⟨fun e => ho.2 (by rw [e]; rfl), ho⟩) _ _ _ _ _ _ _ _, holdsT_set4' (((hkid q hq).2.alloc _).bel hb2) (fun b _ ho => ⟨fun e => ho.2 (by rw [e]; rfl), ho⟩) _ _ _ _ _ _ _ _⟩
        · rw [List.mem_singleton.1 hq]
          exact ⟨holds_set4' hvb2 (fun b hb ho => hok2 b hb (by simpa using ho)) _ _ _ _ _ _ _ _, holdsT_set4' hvr2 (fun b hb ho => hok2 b hb (by simpa using ho)) _ _ _ _ _ _ _ _⟩
      clear hrow hrow1 hrow2 hkid hbl hb2 hB2 hvb2 hvr2 hb1 hpc c0 c1 c2 c3 d0 d1 d2 d3 e0 e1 e2 e3 f0 f1 f2 f3 hk2 hok2 hbw
      generalize (((w2.setCell ⟨g, k * 4, none⟩ (.slice ta un tc)).setCell ⟨g, k * 4 + 1, none⟩ (.int .i64 v.kind)).setCell ⟨g, k * 4 + 2, none⟩ (.int .i64 v.idx)).setCell ⟨g, k * 4 + 3, none⟩ (.slice td um te) = W3 at *
      go_roundw
      case rel => exact ⟨k + 1, rs ++ [⟨.slice ta un tc, .slice td um te, v⟩], by omega, by go_num, by show _ = _; rw [List.length_append, HR.out]; rfl, by show _ = _; rw [List.map_append]; exact HS2.out, hrow3, hkid2, hB3⟩
      case measure => simp [intOf]; omega
    · obtain rfl : k = qs.length := by omega
      have HS3 : Hid (rs.map (·.t) = ts.map m) := by
        show _ = _
        rw [HS.out, List.take_length, ← HQ.out, List.map_map]
        rfl
      go_wp2
      go_ret
      refine ⟨_, rfl, ?_, hbl⟩
      rw [List.drop_length, List.append_nil] at hrow
      rw [← HS3.out]
      refine holdsT_of_row (M := N) (e := 34) (by rw [HR.out]; exact hrow) (fun p hp => (hkid p hp).1.mono fun b _ h => h.1) (fun p hp => (hkid p hp).2.mono fun b _ h => h.1) (fun b h => h)

end Go.Proofs.Ytheokboggjnenaa
