/-
  Names and constants in memory: what a slice of strings, or of constants, holds.
-/
import Derived.Test.YtdihplmlbfggjaaDoorMake
import Derived.Test.YtdihplmlbfggjaaDoorRight
namespace Go.Proofs.YtdihplmlbfggjaaDoor
open Go Go.RowKit

/-- THE SLICE v HOLDS JUST THESE STRINGS, in blocks that ok lets by. -/
def HoldsS (w : World) (ok : Nat → Prop) (ss : List ByteArray) (v : Value) : Prop :=
  ∃ a cap, v = .slice a ss.length cap ∧ ss.length ≤ cap ∧ (a = none → cap = 0) ∧ ∀ i s, ss[i]? = some s → ∃ g o, a = some ⟨g, o, none⟩ ∧ ok g ∧ w.cell? ⟨g, o + i, none⟩ = some (.string s)
theorem HoldsS.keep {w w' : World} {ok ok' : Nat → Prop} {ss : List ByteArray} {v : Value} (h : HoldsS w ok ss v) (hb : ∀ b, b < w.heap.size → ok b → w'.heap[b]? = w.heap[b]? ∧ ok' b) : HoldsS w' ok' ss v := by
  obtain ⟨a, cap, h1, h2, h3, h4⟩ := h
  refine ⟨a, cap, h1, h2, h3, fun i s hs => ?_⟩
  obtain ⟨g, o, e1, e2, e3⟩ := h4 i s hs
  have hk := hb g (lt_of_cell e3) e2
  exact ⟨g, o, e1, hk.2, (World.cell?_of_block (w := w) (a := ⟨g, o + i, none⟩) hk.1).trans e3⟩
theorem HoldsS.mono {w : World} {ok ok' : Nat → Prop} {ss : List ByteArray} {v : Value} (h : HoldsS w ok ss v) (hb : ∀ b, b < w.heap.size → ok b → ok' b) : HoldsS w ok' ss v := h.keep fun b hl ho => ⟨rfl, hb b hl ho⟩
theorem HoldsS.bel {w w' : World} {ok : Nat → Prop} {ss : List ByteArray} {v : Value} (h : HoldsS w ok ss v) (hb : Below w.heap.size w w') : HoldsS w' ok ss v := h.keep fun b hl ho => ⟨hb.block b hl, ho⟩
theorem HoldsS.alloc {w : World} {ok : Nat → Prop} {ss : List ByteArray} {v : Value} (h : HoldsS w ok ss v) (o : Obj) : HoldsS (w.alloc o) ok ss v := h.bel ((Below.refl _ _).alloc (Nat.le_refl _) o)
theorem HoldsS.nil (w : World) (ok : Nat → Prop) : HoldsS w ok [] (.slice none 0 0) := ⟨none, 0, rfl, Nat.zero_le _, fun _ => rfl, fun i s h => by simp at h⟩

/-- A constant. -/
structure Cn where
  name : ByteArray
  ty : Ty
/-- THE SLICE v HOLDS JUST THESE CONSTANTS: a constant has three cells: its name, its type's arguments' slice and its base. -/
def HoldsC (w : World) (ok : Nat → Prop) (cs : List Cn) (v : Value) : Prop :=
  ∃ a cap, v = .slice a cs.length cap ∧ cs.length ≤ cap ∧ (a = none → cap = 0) ∧ ∀ i c, cs[i]? = some c → ∃ g o s, a = some ⟨g, o, none⟩ ∧ ok g ∧ w.cell? ⟨g, o + i * 3, none⟩ = some (.string c.name) ∧ w.cell? ⟨g, o + i * 3 + 1, none⟩ = some s ∧ w.cell? ⟨g, o + i * 3 + 2, none⟩ = some (.int .i64 c.ty.base) ∧ Holds w ok c.ty.args s
theorem HoldsC.keep {w w' : World} {ok ok' : Nat → Prop} {cs : List Cn} {v : Value} (h : HoldsC w ok cs v) (hb : ∀ b, b < w.heap.size → ok b → w'.heap[b]? = w.heap[b]? ∧ ok' b) : HoldsC w' ok' cs v := by
  obtain ⟨a, cap, h1, h2, h3, h4⟩ := h
  refine ⟨a, cap, h1, h2, h3, fun i c hc => ?_⟩
  obtain ⟨g, o, s, e1, e2, e3, e4, e5, e6⟩ := h4 i c hc
  have hk := hb g (lt_of_cell e3) e2
  exact ⟨g, o, s, e1, hk.2, (World.cell?_of_block (w := w) (a := ⟨g, o + i * 3, none⟩) hk.1).trans e3, (World.cell?_of_block (w := w) (a := ⟨g, o + i * 3 + 1, none⟩) hk.1).trans e4, (World.cell?_of_block (w := w) (a := ⟨g, o + i * 3 + 2, none⟩) hk.1).trans e5, e6.keep hb⟩
theorem HoldsC.mono {w : World} {ok ok' : Nat → Prop} {cs : List Cn} {v : Value} (h : HoldsC w ok cs v) (hb : ∀ b, b < w.heap.size → ok b → ok' b) : HoldsC w ok' cs v := h.keep fun b hl ho => ⟨rfl, hb b hl ho⟩
theorem HoldsC.bel {w w' : World} {ok : Nat → Prop} {cs : List Cn} {v : Value} (h : HoldsC w ok cs v) (hb : Below w.heap.size w w') : HoldsC w' ok cs v := h.keep fun b hl ho => ⟨hb.block b hl, ho⟩
theorem HoldsC.alloc {w : World} {ok : Nat → Prop} {cs : List Cn} {v : Value} (h : HoldsC w ok cs v) (o : Obj) : HoldsC (w.alloc o) ok cs v := h.bel ((Below.refl _ _).alloc (Nat.le_refl _) o)
theorem HoldsC.nil (w : World) (ok : Nat → Prop) : HoldsC w ok [] (.slice none 0 0) := ⟨none, 0, rfl, Nat.zero_le _, fun _ => rfl, fun i s h => by simp at h⟩
/-- Across a step that turns some blocks alone, none of which ok lets by. -/
theorem HoldsS.only {S : List Nat} {w w' : World} {ok : Nat → Prop} {ss : List ByteArray} {v : Value} (h : HoldsS w ok ss v) (hk : Only S w w') (hs : ∀ b, ok b → b ∉ S) : HoldsS w' ok ss v := h.keep fun b hl ho => ⟨hk.block b hl (hs b ho), ho⟩
theorem HoldsC.only {S : List Nat} {w w' : World} {ok : Nat → Prop} {cs : List Cn} {v : Value} (h : HoldsC w ok cs v) (hk : Only S w w') (hs : ∀ b, ok b → b ∉ S) : HoldsC w' ok cs v := h.keep fun b hl ho => ⟨hk.block b hl (hs b ho), ho⟩
theorem Holds.only {S : List Nat} {w w' : World} {ok : Nat → Prop} {ts : List Ty} {v : Value} (h : Holds w ok ts v) (hk : Only S w w') (hs : ∀ b, ok b → b ∉ S) : Holds w' ok ts v := h.keep fun b hl ho => ⟨hk.block b hl (hs b ho), ho⟩

/-- A table, as a value. -/
abbrev tab (a b : Value) : Value := .agg #[a, b]

end Go.Proofs.YtdihplmlbfggjaaDoor
