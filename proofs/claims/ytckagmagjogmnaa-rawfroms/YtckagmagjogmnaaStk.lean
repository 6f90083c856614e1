/-
  A stack of types that is overwritten in place.
-/
import Derived.Test.YtckagmagjogmnaaHeadC
namespace Go.Proofs.Ytckagmagjogmnaa
open Go Go.RowKit Go.Sort

theorem step_append_types {P : Program} {w : World} {ops : Array Oper} {o : Oper} {a : Act} {K : Act → World → Prop} {Q : Exit → Act → World → Prop} {E : Prop} (hgd : o.guard = none) (s x : Operand) (t : TypeId)
    (ho : o.op = .call { callee := .builtin .append, args := #[s, x], argTypes := #[t, t] })
    (base : Nat) (e : TypeId) (i : TypeInfo) (z : Value) (ht : P.underlying t = some (.slice e)) (hi : P.info? e = some i) (hz : i.zero = some z)
    (hsize : i.size = 2) (hby : i.bytes = 32) (hzs : z.cells.size = 2)
    (v : Value) (ps : List (Value × Ty)) (hs : a.eval s = v) (hown : w.ownsRow base e 2 v ps.length (pcells ps))
    (ok : Nat → Prop) (ts : List Ty) (sl : Value) (hx : a.eval x = sl) (hh : Holds w ok ts sl) (hlen : ps.length + ts.length ≤ 2000000) (hbase : base ≤ w.heap.size)
    (h : ∀ v' w' qs, qs.map (·.2) = ts → (∀ p ∈ qs, Holds w ok p.2.args p.1) → w'.ownsRow base e 2 v' (ps ++ qs).length (pcells (ps ++ qs)) → w.grownBy w' v.ownBlock → (v'.ownBlock = v.ownBlock ∨ v'.ownBlock = some w.heap.size) → K (a.put o.dst v') w') :
    if Region.wanted o (yielded ops a.tmps) = true then Oper.wp P o a w K Q else E := by
  have hw : Region.wanted o (yielded ops a.tmps) = true := by simp [Region.wanted, hgd]
  rw [if_pos hw]
  exact wp_append_types s x t ho base e i z ht hi hz hsize hby hzs v ps hs hown ok ts sl hx hh hlen hbase h
/-- A row's block is none of another type. -/
theorem row_other {w : World} {N C : Nat} {e t : TypeId} {v : Value} {n : Nat} {xs : List Value} {cs : Array Value} (h : w.ownsRow N e 2 v n xs) (hC : Blk w C t cs) (hne : e ≠ t) : v.ownBlock ≠ some C := by
  intro hb
  rcases h.2 with ⟨rfl, _⟩ | ⟨g, cap, cur, rfl, _, hg, _⟩
  · cases hb
  · cases hb
    rw [show w.heap[g]? = _ from hC] at hg
    cases hg
    exact hne rfl
/-- The front of a row. -/
theorem row_front {w : World} {N : Nat} {e : TypeId} {a : Option Addr} {n cap : Nat} {ps qs : List (Value × Ty)} (h : w.ownsRow N e 2 (.slice a n cap) (ps ++ qs).length (pcells (ps ++ qs))) :
    w.ownsRow N e 2 (.slice a ps.length cap) ps.length (pcells ps) := by
  refine ⟨pcells_length _, ?_⟩
  rcases h.2 with ⟨e1, e2⟩ | ⟨g, cap', cur, e1, hb, hg, h1, h2, h3, h4⟩
  · cases e1
    rw [List.length_append] at e2
    exact .inl ⟨by rw [show ps.length = 0 by omega], by omega⟩
  · cases e1
    rw [List.length_append] at h1
    refine .inr ⟨g, cap, cur, rfl, hb, hg, by omega, h2, h3, ?_⟩
    have h5 := congrArg (List.take (ps.length * 2)) h4
    rw [List.take_take, List.length_append, Nat.min_eq_left (by omega), pcells_append, ← pcells_length ps, List.take_left] at h5
    rw [pcells_length] at h5
    exact h5
theorem row_onlyS {w w' : World} {N : Nat} {e : TypeId} {v : Value} {n : Nat} {xs : List Value} {S : List Nat} (h : w.ownsRow N e 2 v n xs) (hk : Only S w w') (hn : ∀ b, v.ownBlock = some b → b ∉ S) : w'.ownsRow N e 2 v n xs := by
  refine ⟨h.1, ?_⟩
  rcases h.2 with h2 | ⟨g, cap, cur, rfl, hb, hg, rest⟩
  · exact .inl h2
  · refine .inr ⟨g, cap, cur, rfl, hb, ?_, rest⟩
    rw [hk.block g (Array.getElem?_eq_some_iff.1 hg).1 (hn g rfl)]
    exact hg
theorem own_same (a : Option Addr) (n m c : Nat) : (Value.slice a n c).ownBlock = (Value.slice a m c).ownBlock := by cases a <;> rfl
/-- The blocks that a stack and its row turn. -/
def turns (C : Nat) (v : Value) : List Nat := C :: v.ownBlock.toList
theorem turns_mem {C k : Nat} {v : Value} : k ∈ turns C v ↔ k = C ∨ v.ownBlock = some k := by
  unfold turns
  rw [List.mem_cons, Option.mem_toList]
/-- THE STACK: c's box, and the row of its context. -/
structure Stk (w : World) (N C : Nat) (bs : Int) (cv mv xv : Value) (ps : List (Value × Ty)) : Prop where
  box : Blk w C 98 #[.int .i64 bs, cv, mv, xv]
  row : w.ownsRow N 32 2 xv ps.length (pcells ps)
  kid : ∀ p ∈ ps, Holds w (fun b => b < N) p.2.args p.1
  low : N ≤ C
theorem row_lower {w : World} {N M : Nat} {e : TypeId} {v : Value} {n : Nat} {xs : List Value} (h : w.ownsRow M e 2 v n xs) (hN : N ≤ M) : w.ownsRow N e 2 v n xs := by
  refine ⟨h.1, ?_⟩
  rcases h.2 with h2 | ⟨g, cap, cur, e1, hb, rest⟩
  · exact .inl h2
  · exact .inr ⟨g, cap, cur, e1, by omega, rest⟩

end Go.Proofs.Ytckagmagjogmnaa
