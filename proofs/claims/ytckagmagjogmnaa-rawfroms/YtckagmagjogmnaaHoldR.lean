/-
  Raw terms in memory: what a slice of raw terms holds, and that worlds which keep its blocks keep it.
-/
import Derived.Test.YtckagmagjogmnaaRw
import Derived.Test.YtckagmagjogmnaaMk
namespace Go.Proofs.Ytckagmagjogmnaa
open Go Go.RowKit

/-- THE SLICE v HOLDS JUST THESE RAW TERMS, in blocks that ok lets by: a raw term has five cells: its kind, its type's slice and base, its index, its kids' slice. -/
inductive HoldsR (w : World) (ok : Nat → Prop) : List Rw → Value → Prop
  | mk (ts : List Rw) (a : Option Addr) (cap : Nat) (f r : Nat → Value) (hcap : ts.length ≤ cap) (hnil : a = none → cap = 0)
    (hc : ∀ i t, ts[i]? = some t → ∃ g o, a = some ⟨g, o, none⟩ ∧ ok g ∧ w.cell? ⟨g, o + i * 5, none⟩ = some (.int .i64 t.kind) ∧ w.cell? ⟨g, o + i * 5 + 1, none⟩ = some (f i) ∧ w.cell? ⟨g, o + i * 5 + 2, none⟩ = some (.int .i64 t.ty.base) ∧ w.cell? ⟨g, o + i * 5 + 3, none⟩ = some (.int .i64 t.idx) ∧ w.cell? ⟨g, o + i * 5 + 4, none⟩ = some (r i))
    (hb : ∀ i t, ts[i]? = some t → Holds w ok t.ty.args (f i))
    (hr : ∀ i t, ts[i]? = some t → HoldsR w ok t.kids (r i)) : HoldsR w ok ts (.slice a ts.length cap)

theorem HoldsR.shape {w : World} {ok : Nat → Prop} {ts : List Rw} {v : Value} (h : HoldsR w ok ts v) : ∃ a cap, v = .slice a ts.length cap ∧ ts.length ≤ cap ∧
    ∀ i t, ts[i]? = some t → ∃ g o s r, a = some ⟨g, o, none⟩ ∧ ok g ∧ g < w.heap.size ∧ w.cell? ⟨g, o + i * 5, none⟩ = some (.int .i64 t.kind) ∧ w.cell? ⟨g, o + i * 5 + 1, none⟩ = some s ∧ w.cell? ⟨g, o + i * 5 + 2, none⟩ = some (.int .i64 t.ty.base) ∧ w.cell? ⟨g, o + i * 5 + 3, none⟩ = some (.int .i64 t.idx) ∧ w.cell? ⟨g, o + i * 5 + 4, none⟩ = some r ∧ Holds w ok t.ty.args s ∧ HoldsR w ok t.kids r := by
  cases h with
  | mk ts a cap f r hcap hnil hc hb hr =>
    refine ⟨a, cap, rfl, hcap, fun i t ht => ?_⟩
    obtain ⟨g, o, h1, h2, h3, h4, h5, h6, h7⟩ := hc i t ht
    exact ⟨g, o, f i, r i, h1, h2, lt_of_cell h3, h3, h4, h5, h6, h7, hb i t ht, hr i t ht⟩
theorem HoldsR.keep {w w' : World} {ok ok' : Nat → Prop} {ts : List Rw} {v : Value} (h : HoldsR w ok ts v) (hb : ∀ b, b < w.heap.size → ok b → w'.heap[b]? = w.heap[b]? ∧ ok' b) : HoldsR w' ok' ts v := by
  induction h with
  | mk ts a cap f r hcap hnil hc hbn hr ih =>
    refine .mk ts a cap f r hcap hnil (fun i t ht => ?_) (fun i t ht => (hbn i t ht).keep hb) ih
    obtain ⟨g, o, h1, h2, h3, h4, h5, h6, h7⟩ := hc i t ht
    have hk := hb g (lt_of_cell h3) h2
    exact ⟨g, o, h1, hk.2, (World.cell?_of_block (w := w) (a := ⟨g, o + i * 5, none⟩) hk.1).trans h3, (World.cell?_of_block (w := w) (a := ⟨g, o + i * 5 + 1, none⟩) hk.1).trans h4, (World.cell?_of_block (w := w) (a := ⟨g, o + i * 5 + 2, none⟩) hk.1).trans h5, (World.cell?_of_block (w := w) (a := ⟨g, o + i * 5 + 3, none⟩) hk.1).trans h6, (World.cell?_of_block (w := w) (a := ⟨g, o + i * 5 + 4, none⟩) hk.1).trans h7⟩
theorem HoldsR.mono {w : World} {ok ok' : Nat → Prop} {ts : List Rw} {v : Value} (h : HoldsR w ok ts v) (hb : ∀ b, b < w.heap.size → ok b → ok' b) : HoldsR w ok' ts v := h.keep fun b hl ho => ⟨rfl, hb b hl ho⟩
theorem HoldsR.bel {w w' : World} {ok : Nat → Prop} {ts : List Rw} {v : Value} (h : HoldsR w ok ts v) (hb : Below w.heap.size w w') : HoldsR w' ok ts v := h.keep fun b hl ho => ⟨hb.block b hl, ho⟩
theorem HoldsR.drew {w : World} {ok : Nat → Prop} {ts : List Rw} {v : Value} (h : HoldsR w ok ts v) : HoldsR w.drew ok ts v := h.keep fun _ _ ho => ⟨rfl, ho⟩
theorem HoldsR.alloc {w : World} {ok : Nat → Prop} {ts : List Rw} {v : Value} (h : HoldsR w ok ts v) (o : Obj) : HoldsR (w.alloc o) ok ts v := h.bel ((Below.refl _ _).alloc (Nat.le_refl _) o)
theorem HoldsR.nil (w : World) (ok : Nat → Prop) (a : Option Addr) (cap : Nat) (h : a = none → cap = 0) : HoldsR w ok [] (.slice a 0 cap) := .mk [] a cap (fun _ => .slice none 0 0) (fun _ => .slice none 0 0) (Nat.zero_le _) h (fun i t h => by simp at h) (fun i t h => by simp at h) (fun i t h => by simp at h)
theorem HoldsR.ofnil {w : World} {ok : Nat → Prop} {n cap : Nat} {a : Option Addr} (h : HoldsR w ok [] (.slice a n cap)) (ok' : Nat → Prop) (w' : World) : HoldsR w' ok' [] (.slice a n cap) := by
  generalize hv : Value.slice a n cap = v at h
  generalize hts : ([] : List Rw) = ts at h
  cases h with
  | mk ts a' cap' f r hcap hnil hc hb hr =>
    subst hts
    cases hv
    exact HoldsR.nil _ _ _ _ hnil
theorem HoldsR.isnil {w : World} {ok : Nat → Prop} {ts : List Rw} {n cap : Nat} (h : HoldsR w ok ts (.slice none n cap)) : n = 0 ∧ cap = 0 ∧ ts = [] := by
  generalize hv : Value.slice none n cap = v at h
  cases h with
  | mk ts a' cap' f r hcap hnil hc hb hr =>
    cases hv
    have h0 := hnil rfl
    have h1 : ts.length = 0 := by omega
    exact ⟨h1, h0, List.eq_nil_of_length_eq_zero h1⟩

/-- A raw term, as a value. -/
abbrev rwv (k : Int) (s : Value) (b i : Int) (r : Value) : Value := .agg #[.int .i64 k, s, .int .i64 b, .int .i64 i, r]

/-- What a raw term's cells hold: its type's slice, its kids' slice, the term. -/
structure Rc where
  sb : Value
  sr : Value
  t : Rw
/-- The cells of raw terms. -/
def rcells : List Rc → List Value
  | [] => []
  | p :: r => .int .i64 p.t.kind :: p.sb :: .int .i64 p.t.ty.base :: .int .i64 p.t.idx :: p.sr :: rcells r
theorem rcells_append (a b : List Rc) : rcells (a ++ b) = rcells a ++ rcells b := by
  induction a with
  | nil => rfl
  | cons p a ih => simp [rcells, ih]
theorem rcells_length (a : List Rc) : (rcells a).length = a.length * 5 := by
  induction a with
  | nil => rfl
  | cons p a ih => simp [rcells, ih]; omega
theorem rcells_get (a : List Rc) (i : Nat) (p : Rc) (h : a[i]? = some p) : (rcells a)[i * 5]? = some (.int .i64 p.t.kind) ∧ (rcells a)[i * 5 + 1]? = some p.sb ∧ (rcells a)[i * 5 + 2]? = some (.int .i64 p.t.ty.base) ∧ (rcells a)[i * 5 + 3]? = some (.int .i64 p.t.idx) ∧ (rcells a)[i * 5 + 4]? = some p.sr := by
  induction a generalizing i with
  | nil => simp at h
  | cons q a ih =>
    cases i with
    | zero => simp at h; subst h; simp [rcells]
    | succ i =>
      have := ih i (by simpa using h)
      rw [show (i + 1) * 5 = i * 5 + 1 + 1 + 1 + 1 + 1 by omega]
      simpa [rcells] using this

/-- THE SLICE v OF RAW TERMS, OF ELEMENTS OF TYPE e, IS BEING MADE in blocks from M on: so far of these. -/
structure MkR (w : World) (M : Nat) (e : TypeId) (v : Value) (ps : List Rc) : Prop where
  row : w.ownsRow M e 5 v ps.length (rcells ps)
  bnd : ∀ p ∈ ps, Holds w (fun b => M ≤ b ∧ v.ownBlock ≠ some b) p.t.ty.args p.sb
  kid : ∀ p ∈ ps, HoldsR w (fun b => M ≤ b ∧ v.ownBlock ≠ some b) p.t.kids p.sr

theorem MkR.nil (w : World) (M : Nat) (e : TypeId) : MkR w M e (.slice none 0 0) [] := ⟨World.ownsRow_nil w M e 5, (fun p hp => by cases hp), (fun p hp => by cases hp)⟩
theorem MkR.keep {w w' : World} {M : Nat} {e : TypeId} {v : Value} {ps : List Rc} (h : MkR w M e v ps) (hk : ∀ b, M ≤ b → b < w.heap.size → w'.heap[b]? = w.heap[b]?) : MkR w' M e v ps := by
  refine ⟨?_, fun p hp => (h.bnd p hp).keep fun b hb ho => ⟨hk b ho.1 hb, ho⟩, fun p hp => (h.kid p hp).keep fun b hb ho => ⟨hk b ho.1 hb, ho⟩⟩
  obtain ⟨h1, h2⟩ := h.row
  refine ⟨h1, ?_⟩
  rcases h2 with h2 | ⟨g, cap, cur, e1, e2, e3, e4⟩
  · exact .inl h2
  · refine .inr ⟨g, cap, cur, e1, e2, ?_, e4⟩
    have hlt : g < w.heap.size := (Array.getElem?_eq_some_iff.1 e3).1
    rw [hk g e2 hlt]
    exact e3
theorem MkR.bel {w w' : World} {M : Nat} {e : TypeId} {v : Value} {ps : List Rc} (h : MkR w M e v ps) (hb : Below w.heap.size w w') : MkR w' M e v ps := h.keep fun b _ hl => hb.block b hl
theorem MkR.drew {w : World} {M : Nat} {e : TypeId} {v : Value} {ps : List Rc} (h : MkR w M e v ps) : MkR w.drew M e v ps := h.keep fun _ _ _ => rfl
theorem MkR.alloc {w : World} {M : Nat} {e : TypeId} {v : Value} {ps : List Rc} (h : MkR w M e v ps) (o : Obj) : MkR (w.alloc o) M e v ps := h.bel ((Below.refl _ _).alloc (Nat.le_refl _) o)
theorem MkR.set {w : World} {M : Nat} {e : TypeId} {v : Value} {ps : List Rc} (h : MkR w M e v ps) {R : Nat} (hR : R < M) (i : Nat) (u : Value) : MkR (w.setCell ⟨R, i, none⟩ u) M e v ps :=
  h.keep fun b hb _ => Below.heap_setCell w ⟨R, i, none⟩ u b (show b ≠ R by omega)
theorem MkR.lt {w : World} {M : Nat} {e : TypeId} {v : Value} {ps : List Rc} (h : MkR w M e v ps) (b : Nat) (hb : v.ownBlock = some b) : M ≤ b ∧ b < w.heap.size := h.row.lt b hb
theorem MkR.snoc {w w3 : World} {M L k : Nat} {e : TypeId} {v : Value} {ps : List Rc} {x : Rc} {g cap : Nat} (h : MkR w M e v ps) (hk : ps.length = k) (hb : Holds w (fun b => L ≤ b) x.t.ty.args x.sb) (hs : HoldsR w (fun b => L ≤ b) x.t.kids x.sr) (hML : M ≤ L)
    (hvL : ∀ b, v.ownBlock = some b → b < L) (hg : w.grownBy w3 v.ownBlock) (hat : v.ownBlock = some g ∨ g = w.heap.size)
    (hown : w3.ownsRow M e 5 (.slice (some ⟨g, 0, none⟩) (k + 1) cap) (k + 1) (rcells ps ++ [.int .i64 x.t.kind, x.sb, .int .i64 x.t.ty.base, .int .i64 x.t.idx, x.sr])) : MkR w3 M e (.slice (some ⟨g, 0, none⟩) (k + 1) cap) (ps ++ [x]) := by
  have hgo : (Value.slice (some ⟨g, 0, none⟩) (k + 1) cap).ownBlock = some g := rfl
  have hb3 : ∀ b, b < w.heap.size → v.ownBlock ≠ some b → w3.heap[b]? = w.heap[b]? := fun b hb hn => hg.block b hb (fun e => hn e.symm)
  have hne : ∀ b, b < w.heap.size → v.ownBlock ≠ some b → (some g : Option Nat) ≠ some b := fun b hb hn e => by
    cases e
    rcases hat with h1 | h1
    · exact hn h1
    · omega
  have hnew : ∀ b, b < w.heap.size → L ≤ b → w3.heap[b]? = w.heap[b]? ∧ M ≤ b ∧ (Value.slice (some ⟨g, 0, none⟩) (k + 1) cap).ownBlock ≠ some b := fun b hb ho => by
    have hn : v.ownBlock ≠ some b := fun e => by have := hvL b e; omega
    exact ⟨hb3 b hb hn, Nat.le_trans hML ho, by rw [hgo]; exact hne b hb hn⟩
  have hold : ∀ b, b < w.heap.size → (M ≤ b ∧ v.ownBlock ≠ some b) → w3.heap[b]? = w.heap[b]? ∧ M ≤ b ∧ (Value.slice (some ⟨g, 0, none⟩) (k + 1) cap).ownBlock ≠ some b := fun b hb ho => ⟨hb3 b hb ho.2, ho.1, by rw [hgo]; exact hne b hb ho.2⟩
  refine ⟨by rw [List.length_append, rcells_append, hk]; exact hown, fun p hp => ?_, fun p hp => ?_⟩
  · rcases List.mem_append.1 hp with hp | hp
    · exact (h.bnd p hp).keep hold
    · obtain rfl : p = x := by simpa using hp
      exact hb.keep hnew
  · rcases List.mem_append.1 hp with hp | hp
    · exact (h.kid p hp).keep hold
    · obtain rfl : p = x := by simpa using hp
      exact hs.keep hnew
/-- a row of raw terms in blocks that ok lets by holds them -/
theorem holdsR_of_row {w : World} {M : Nat} {e : TypeId} {v : Value} {ps : List Rc} {ok : Nat → Prop} (h' : w.ownsRow M e 5 v ps.length (rcells ps)) (hb : ∀ p ∈ ps, Holds w ok p.t.ty.args p.sb) (hk : ∀ p ∈ ps, HoldsR w ok p.t.kids p.sr) (hM : ∀ b, M ≤ b → ok b) : HoldsR w ok (ps.map (·.t)) v := by
  have h9 := h'
  obtain ⟨h1, h2⟩ := h'
  rcases h2 with ⟨rfl, h2⟩ | ⟨g, cap, cur, rfl, e2, e3, e4, e5, e6⟩
  · have : ps = [] := List.eq_nil_of_length_eq_zero h2
    subst this
    exact HoldsR.nil _ _ _ _ (fun _ => rfl)
  · have hc := World.ownsRow.cellAt h9
    have hq : ∀ (i : Nat) (u : Rw), (ps.map (·.t))[i]? = some u → ∃ p : Rc, ps[i]? = some p ∧ p.t = u := by
      intro i u hi
      rw [List.getElem?_map] at hi
      exact Option.map_eq_some_iff.1 hi
    have := HoldsR.mk (w := w) (ok := ok) (ps.map (·.t)) (some ⟨g, 0, none⟩) cap (fun i => ((ps[i]?).map (·.sb)).getD undef) (fun i => ((ps[i]?).map (·.sr)).getD undef) (by simpa using e4) (fun h => by cases h)
      (fun i u hi => by
        obtain ⟨p, hp, rfl⟩ := hq i u hi
        obtain ⟨c0, c1, c2, c3, c4⟩ := rcells_get ps i p hp
        have hil := (List.getElem?_eq_some_iff.1 hp).1
        refine ⟨g, 0, rfl, hM _ e2, ?_, ?_, ?_, ?_, ?_⟩
        · rw [Nat.zero_add, hc _ (by omega), c0]
        · rw [Nat.zero_add, hc _ (by omega), c1, hp]; rfl
        · rw [Nat.zero_add, hc _ (by omega), c2]
        · rw [Nat.zero_add, hc _ (by omega), c3]
        · rw [Nat.zero_add, hc _ (by omega), c4, hp]; rfl)
      (fun i u hi => by
        obtain ⟨p, hp, rfl⟩ := hq i u hi
        rw [hp]
        exact hb p (List.mem_of_getElem? hp))
      (fun i u hi => by
        obtain ⟨p, hp, rfl⟩ := hq i u hi
        rw [hp]
        exact hk p (List.mem_of_getElem? hp))
    rwa [List.length_map] at this
theorem MkR.holds {w : World} {M : Nat} {e : TypeId} {v : Value} {ps : List Rc} (h : MkR w M e v ps) : HoldsR w (fun b => M ≤ b) (ps.map (·.t)) v :=
  holdsR_of_row h.row (fun p hp => (h.bnd p hp).mono fun _ _ ho => ho.1) (fun p hp => (h.kid p hp).mono fun _ _ ho => ho.1) (fun _ h => h)
theorem cell_five_new (w : World) (x y z u s : Value) (t : TypeId) : ∀ j v, [x, y, z, u, s][j]? = some v → (w.alloc (.cells #[x, y, z, u, s] t)).cell? ((⟨w.heap.size, 0, none⟩ : Addr).add j) = some v := by
  intro j v h
  have hb := Blk.new w t #[x, y, z, u, s]
  match j, h with
  | 0, h => cases h; exact hb.cell 0
  | 1, h => cases h; exact hb.cell 1
  | 2, h => cases h; exact hb.cell 2
  | 3, h => cases h; exact hb.cell 3
  | 4, h => cases h; exact hb.cell 4

end Go.Proofs.Ytckagmagjogmnaa
