/-
  Types in memory: what a slice of types holds, and that worlds which keep its blocks keep it.
-/
import Derived.Test.YtheokboggjnenaaTy
import Derived.Test.YtheokboggjnenaaOnly
namespace Go.Proofs.Ytheokboggjnenaa
open Go Go.RowKit

/-- THE SLICE v HOLDS JUST THESE TYPES, and they theirs, in blocks that ok lets by: a type has two cells: its arguments' slice and its base. -/
inductive Holds (w : World) (ok : Nat → Prop) : List Ty → Value → Prop
  | mk (ts : List Ty) (a : Option Addr) (cap : Nat) (f : Nat → Value) (hcap : ts.length ≤ cap) (hnil : a = none → cap = 0)
    (hc : ∀ i t, ts[i]? = some t → ∃ g o, a = some ⟨g, o, none⟩ ∧ ok g ∧ w.cell? ⟨g, o + i * 2, none⟩ = some (f i) ∧ w.cell? ⟨g, o + i * 2 + 1, none⟩ = some (.int .i64 t.base))
    (hr : ∀ i t, ts[i]? = some t → Holds w ok t.args (f i)) : Holds w ok ts (.slice a ts.length cap)

theorem lt_of_cell {w : World} {p : Addr} {v : Value} (h : w.cell? p = some v) : p.block < w.heap.size := by
  rcases Nat.lt_or_ge p.block w.heap.size with hl | hl
  · exact hl
  · have e : w.heap[p.block]? = none := Array.getElem?_eq_none hl
    unfold World.cell? at h
    rw [e] at h
    simp at h

theorem Holds.shape {w : World} {ok : Nat → Prop} {ts : List Ty} {v : Value} (h : Holds w ok ts v) : ∃ a cap, v = .slice a ts.length cap ∧ ts.length ≤ cap ∧
    ∀ i t, ts[i]? = some t → ∃ g o s, a = some ⟨g, o, none⟩ ∧ ok g ∧ g < w.heap.size ∧ w.cell? ⟨g, o + i * 2, none⟩ = some s ∧ w.cell? ⟨g, o + i * 2 + 1, none⟩ = some (.int .i64 t.base) ∧ Holds w ok t.args s := by
  cases h with
  | mk ts a cap f hcap hnil hc hr =>
    refine ⟨a, cap, rfl, hcap, fun i t ht => ?_⟩
    obtain ⟨g, o, h1, h2, h3, h4⟩ := hc i t ht
    exact ⟨g, o, f i, h1, h2, lt_of_cell h3, h3, h4, hr i t ht⟩

theorem Holds.keep {w w' : World} {ok ok' : Nat → Prop} {ts : List Ty} {v : Value} (h : Holds w ok ts v) (hb : ∀ b, b < w.heap.size → ok b → w'.heap[b]? = w.heap[b]? ∧ ok' b) : Holds w' ok' ts v := by
  induction h with
  | mk ts a cap f hcap hnil hc hr ih =>
    refine .mk ts a cap f hcap hnil (fun i t ht => ?_) ih
    obtain ⟨g, o, h1, h2, h3, h4⟩ := hc i t ht
    have hk := hb g (lt_of_cell h3) h2
    exact ⟨g, o, h1, hk.2, (World.cell?_of_block (w := w) (a := ⟨g, o + i * 2, none⟩) hk.1).trans h3, (World.cell?_of_block (w := w) (a := ⟨g, o + i * 2 + 1, none⟩) hk.1).trans h4⟩
theorem Holds.mono {w : World} {ok ok' : Nat → Prop} {ts : List Ty} {v : Value} (h : Holds w ok ts v) (hb : ∀ b, b < w.heap.size → ok b → ok' b) : Holds w ok' ts v := h.keep fun b hl ho => ⟨rfl, hb b hl ho⟩
theorem Holds.bel {w w' : World} {ok : Nat → Prop} {ts : List Ty} {v : Value} (h : Holds w ok ts v) (hb : Below w.heap.size w w') : Holds w' ok ts v := h.keep fun b hl ho => ⟨hb.block b hl, ho⟩
/-- where all blocks lie below n -/
theorem Holds.belN {w w' : World} {n : Nat} {ok : Nat → Prop} {ts : List Ty} {v : Value} (h : Holds w ok ts v) (hn : ∀ b, ok b → b < n) (hb : Below n w w') : Holds w' ok ts v := h.keep fun b _ ho => ⟨hb.block b (hn b ho), ho⟩
theorem Holds.drew {w : World} {ok : Nat → Prop} {ts : List Ty} {v : Value} (h : Holds w ok ts v) : Holds w.drew ok ts v := h.keep fun _ _ ho => ⟨rfl, ho⟩
theorem Holds.alloc {w : World} {ok : Nat → Prop} {ts : List Ty} {v : Value} (h : Holds w ok ts v) (o : Obj) : Holds (w.alloc o) ok ts v := h.bel (Below.refl _ _ |>.alloc (Nat.le_refl _) o)
theorem Holds.nil (w : World) (ok : Nat → Prop) (a : Option Addr) (cap : Nat) (h : a = none → cap = 0) : Holds w ok [] (.slice a 0 cap) := .mk [] a cap (fun _ => .slice none 0 0) (Nat.zero_le _) h (fun i t h => by simp at h) (fun i t h => by simp at h)

theorem take_get {ts : List Ty} {k i : Nat} {t : Ty} (hi : (ts.take k)[i]? = some t) : ts[i]? = some t := by
  rw [List.getElem?_take] at hi
  split at hi
  · exact hi
  · cases hi
/-- a part of a slice: from k on -/
theorem Holds.drop {w : World} {ok : Nat → Prop} {ts : List Ty} {a : Option Addr} {n cap : Nat} (h : Holds w ok ts (.slice a n cap)) (k : Nat) (hk : k < ts.length) :
    ∃ g o, a = some ⟨g, o, none⟩ ∧ Holds w ok (ts.drop k) (.slice (some ⟨g, o + k * 2, none⟩) (n - k) (cap - k)) := by
  generalize hv : Value.slice a n cap = v at h
  cases h with
  | mk ts a' cap' f hcap hnil hc hr =>
    cases hv
    obtain ⟨t, ht⟩ : ∃ t, ts[k]? = some t := ⟨_, List.getElem?_eq_getElem hk⟩
    obtain ⟨g, o, rfl, hg, _⟩ := hc k t ht
    refine ⟨g, o, rfl, ?_⟩
    have e : ts.length - k = (ts.drop k).length := by simp
    rw [e]
    refine .mk (ts.drop k) _ _ (fun i => f (k + i)) (by simp; omega) (fun h => by cases h) (fun i t hi => ?_) (fun i t hi => ?_)
    · rw [List.getElem?_drop] at hi
      obtain ⟨g', o', e1, _, h3, h4⟩ := hc (k + i) t hi
      cases e1
      refine ⟨g, o + k * 2, rfl, hg, ?_, ?_⟩
      · rw [← h3]; congr 2; omega
      · rw [← h4]; congr 2; omega
    · rw [List.getElem?_drop] at hi
      exact hr (k + i) t hi
theorem Holds.take {w : World} {ok : Nat → Prop} {ts : List Ty} {a : Option Addr} {n cap : Nat} (h : Holds w ok ts (.slice a n cap)) (k : Nat) (hk : k ≤ ts.length) (c : Nat) (hc' : k ≤ c) (hn' : a = none → c = 0) :
    Holds w ok (ts.take k) (.slice a k c) := by
  generalize hv : Value.slice a n cap = v at h
  cases h with
  | mk ts a' cap' f hcap hnil hc hr =>
    cases hv
    have e : k = (ts.take k).length := by simp; omega
    have := Holds.mk (w := w) (ok := ok) (ts.take k) a c f (by omega) hn'
      (fun i t hi => hc i t (take_get hi))
      (fun i t hi => hr i t (take_get hi))
    rwa [← e] at this

theorem Holds.isnil {w : World} {ok : Nat → Prop} {ts : List Ty} {n cap : Nat} (h : Holds w ok ts (.slice none n cap)) : n = 0 ∧ cap = 0 ∧ ts = [] := by
  generalize hv : Value.slice none n cap = v at h
  cases h with
  | mk ts a' cap' f hcap hnil hc hr =>
    cases hv
    have h0 := hnil rfl
    refine ⟨by omega, h0, List.eq_nil_of_length_eq_zero (by omega)⟩
theorem Holds.ofnil {w : World} {ok : Nat → Prop} {n cap : Nat} {a : Option Addr} (h : Holds w ok [] (.slice a n cap)) (ok' : Nat → Prop) (w' : World) : Holds w' ok' [] (.slice a n cap) := by
  generalize hv : Value.slice a n cap = v at h
  cases h with
  | mk ts a' cap' f hcap hnil hc hr =>
    cases hv
    exact Holds.nil _ _ _ _ hnil

/-- A struct of a type, as a value. -/
abbrev tv (s : Value) (b : Int) : Value := .agg #[s, .int .i64 b]

end Go.Proofs.Ytheokboggjnenaa
