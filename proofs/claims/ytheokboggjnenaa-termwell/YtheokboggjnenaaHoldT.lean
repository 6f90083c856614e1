/-
  Terms in memory: what a slice of terms holds, and that worlds which keep its blocks keep it.
-/
import Derived.Test.YtheokboggjnenaaTm
import Derived.Test.YtheokboggjnenaaHolds
namespace Go.Proofs.Ytheokboggjnenaa
open Go Go.RowKit

/-- THE SLICE v HOLDS JUST THESE TERMS, in blocks that ok lets by: a term has four cells: its binders' slice, its head's kind and index, its arguments' slice. -/
inductive HoldsT (w : World) (ok : Nat → Prop) : List Tm → Value → Prop
  | mk (ts : List Tm) (a : Option Addr) (cap : Nat) (f r : Nat → Value) (hcap : ts.length ≤ cap) (hnil : a = none → cap = 0)
    (hc : ∀ i t, ts[i]? = some t → ∃ g o, a = some ⟨g, o, none⟩ ∧ ok g ∧ w.cell? ⟨g, o + i * 4, none⟩ = some (f i) ∧ w.cell? ⟨g, o + i * 4 + 1, none⟩ = some (.int .i64 t.kind) ∧ w.cell? ⟨g, o + i * 4 + 2, none⟩ = some (.int .i64 t.idx) ∧ w.cell? ⟨g, o + i * 4 + 3, none⟩ = some (r i))
    (hb : ∀ i t, ts[i]? = some t → Holds w ok t.binds (f i))
    (hr : ∀ i t, ts[i]? = some t → HoldsT w ok t.args (r i)) : HoldsT w ok ts (.slice a ts.length cap)

theorem HoldsT.shape {w : World} {ok : Nat → Prop} {ts : List Tm} {v : Value} (h : HoldsT w ok ts v) : ∃ a cap, v = .slice a ts.length cap ∧ ts.length ≤ cap ∧
    ∀ i t, ts[i]? = some t → ∃ g o s r, a = some ⟨g, o, none⟩ ∧ ok g ∧ g < w.heap.size ∧ w.cell? ⟨g, o + i * 4, none⟩ = some s ∧ w.cell? ⟨g, o + i * 4 + 1, none⟩ = some (.int .i64 t.kind) ∧ w.cell? ⟨g, o + i * 4 + 2, none⟩ = some (.int .i64 t.idx) ∧ w.cell? ⟨g, o + i * 4 + 3, none⟩ = some r ∧ Holds w ok t.binds s ∧ HoldsT w ok t.args r := by
  cases h with
  | mk ts a cap f r hcap hnil hc hb hr =>
    refine ⟨a, cap, rfl, hcap, fun i t ht => ?_⟩
    obtain ⟨g, o, h1, h2, h3, h4, h5, h6⟩ := hc i t ht
    exact ⟨g, o, f i, r i, h1, h2, lt_of_cell h3, h3, h4, h5, h6, hb i t ht, hr i t ht⟩
theorem HoldsT.keep {w w' : World} {ok ok' : Nat → Prop} {ts : List Tm} {v : Value} (h : HoldsT w ok ts v) (hb : ∀ b, b < w.heap.size → ok b → w'.heap[b]? = w.heap[b]? ∧ ok' b) : HoldsT w' ok' ts v := by
  induction h with
  | mk ts a cap f r hcap hnil hc hbn hr ih =>
    refine .mk ts a cap f r hcap hnil (fun i t ht => ?_) (fun i t ht => (hbn i t ht).keep hb) ih
    obtain ⟨g, o, h1, h2, h3, h4, h5, h6⟩ := hc i t ht
    have hk := hb g (lt_of_cell h3) h2
    exact ⟨g, o, h1, hk.2, (World.cell?_of_block (w := w) (a := ⟨g, o + i * 4, none⟩) hk.1).trans h3, (World.cell?_of_block (w := w) (a := ⟨g, o + i * 4 + 1, none⟩) hk.1).trans h4, (World.cell?_of_block (w := w) (a := ⟨g, o + i * 4 + 2, none⟩) hk.1).trans h5, (World.cell?_of_block (w := w) (a := ⟨g, o + i * 4 + 3, none⟩) hk.1).trans h6⟩
theorem HoldsT.mono {w : World} {ok ok' : Nat → Prop} {ts : List Tm} {v : Value} (h : HoldsT w ok ts v) (hb : ∀ b, b < w.heap.size → ok b → ok' b) : HoldsT w ok' ts v := h.keep fun b hl ho => ⟨rfl, hb b hl ho⟩
theorem HoldsT.bel {w w' : World} {ok : Nat → Prop} {ts : List Tm} {v : Value} (h : HoldsT w ok ts v) (hb : Below w.heap.size w w') : HoldsT w' ok ts v := h.keep fun b hl ho => ⟨hb.block b hl, ho⟩
theorem HoldsT.drew {w : World} {ok : Nat → Prop} {ts : List Tm} {v : Value} (h : HoldsT w ok ts v) : HoldsT w.drew ok ts v := h.keep fun _ _ ho => ⟨rfl, ho⟩
theorem HoldsT.alloc {w : World} {ok : Nat → Prop} {ts : List Tm} {v : Value} (h : HoldsT w ok ts v) (o : Obj) : HoldsT (w.alloc o) ok ts v := h.bel ((Below.refl _ _).alloc (Nat.le_refl _) o)
theorem HoldsT.nil (w : World) (ok : Nat → Prop) (a : Option Addr) (cap : Nat) (h : a = none → cap = 0) : HoldsT w ok [] (.slice a 0 cap) := .mk [] a cap (fun _ => .slice none 0 0) (fun _ => .slice none 0 0) (Nat.zero_le _) h (fun i t h => by simp at h) (fun i t h => by simp at h) (fun i t h => by simp at h)
theorem HoldsT.ofnil {w : World} {ok : Nat → Prop} {n cap : Nat} {a : Option Addr} (h : HoldsT w ok [] (.slice a n cap)) (ok' : Nat → Prop) (w' : World) : HoldsT w' ok' [] (.slice a n cap) := by
  generalize hv : Value.slice a n cap = v at h
  generalize hts : ([] : List Tm) = ts at h
  cases h with
  | mk ts a' cap' f r hcap hnil hc hb hr =>
    subst hts
    cases hv
    exact HoldsT.nil _ _ _ _ hnil

/-- A term, as a value. -/
abbrev tmv (s : Value) (k i : Int) (r : Value) : Value := .agg #[s, .int .i64 k, .int .i64 i, r]

end Go.Proofs.Ytheokboggjnenaa
