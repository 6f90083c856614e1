/-
  KindEach: what its loop over the types within keeps, and what one round of it leaves.
-/
import Derived.Test.YthcncdihgghbjaaBases
import Derived.Test.YthcncdihgghbjaaRefWithin
namespace Go.Proofs.Ythcncdihgghbjaa
open Go Go.RowKit Go.Shelf

theorem Only.put {S : List Nat} {a w : World} (h : Only S a w) {l : Nat} (hl : l ∈ S) (o : Obj) : Only S a (w.putObj l o) :=
  h.trans ⟨rfl, rfl, rfl, by simp, fun _ _ hs => World.putObj_heap_other (fun e => hs (by rw [e]; exact hl))⟩
theorem Only.grown {S : List Nat} {a w w' : World} {row : Option Nat} (h : Only S a w) (hg : w.grownBy w' row) (hr : ∀ r, row = some r → a.heap.size ≤ r) : Only S a w' :=
  ⟨hg.os.trans h.os, hg.tape.trans h.tape, hg.output.trans h.output, Nat.le_trans h.size hg.size, fun k hk hs => (hg.block k (Nat.lt_of_lt_of_le hk h.size) (fun e => by have := hr k e.symm; omega)).trans (h.block k hk hs)⟩

theorem Holds.put {w : World} {ok : Nat → Prop} {ts : List Ty} {v : Value} {l : Nat} {o : Obj} (h : Holds w ok ts v) (hl : w.heap[l]? = some o) (hc : o.isCells = false) (o' : Obj) : Holds (w.putObj l o') ok ts v := by
  have hr : ∀ r, some l = some r → ∃ x : Obj, w.heap[r]? = some x ∧ x.isCells = false := fun r e => by cases e; exact ⟨o, hl, hc⟩
  induction h with
  | mk ts a cap f hcap hnil hcs hkids ih =>
    refine .mk ts a cap f hcap hnil (fun i t ht => ?_) ih
    obtain ⟨g, off, h1, h2, h3, h4⟩ := hcs i t ht
    exact ⟨g, off, h1, h2, cell_kept h3 (grownBy_putObj' w l o') hr, cell_kept h4 (grownBy_putObj' w l o') hr⟩

theorem Blk.put2 {W W2 : World} {B l : Nat} {t : TypeId} {vs : Array Value} {o o1 o2 : Obj} (h : Blk W B t vs) (hW : (W.alloc o1).putObj l o2 = W2) (hl : (W.alloc o1).heap[l]? = some o) (hc : o.isCells = false := by rfl) : Blk W2 B t vs := by
  rw [← hW]
  exact (h.alloc o1).put o2 hl hc

/-- Between two rounds. -/
def JL (w9 : World) (M E q : Nat) (ws : List (Nat × Ty)) (L : LoopState → Option Code → Loop) (pre : List (Nat × Ty)) (W : World) : Prop :=
  (Only [M + 2, M + 2 + 1] w9 W ∧ Blk W (M + 2) 3 #[.int .i64 (pre.length : Int)] ∧ Blk W (M + 2 + 1) 4 #[.bool true] ∧ pre <+: ws ∧ pre.length < 1 + q) ∧ W.heap[E + 1]? = some (.loop (L .ready none)) ∧ W.heap[E]? = some (.deferred (some []))
/-- Where a round has said that it wants no more. -/
def JxL (w9 : World) (M E q : Nat) (ws : List (Nat × Ty)) (L : LoopState → Option Code → Loop) (pre : List (Nat × Ty)) (W : World) : Prop :=
  (Only [M + 2, M + 2 + 1] w9 W ∧ Blk W (M + 2) 3 #[.int .i64 (pre.length : Int)] ∧ ∃ r, Blk W (M + 2 + 1) 4 #[.bool r] ∧ (r = true → pre.length = 1 + q) ∧ (r = false → ¬ pre <+: ws)) ∧ W.heap[E + 1]? = some (.loop (L .done (some (.exit 0)))) ∧ W.heap[E]? = some (.deferred (some []))

variable {w9 : World} {M E q : Nat} {ws : List (Nat × Ty)} {L : LoopState → Option Code → Loop}

theorem own_at {A C : World} {row : Option Nat} {k : Nat} {o : Obj} (hg : A.grownBy C row) (h : A.heap[k]? = some o) (hr : ∀ r, row = some r → r ≠ k) : C.heap[k]? = some o :=
  (hg.block k (Array.getElem?_eq_some_iff.1 h).1 (fun e => hr k e.symm rfl)).trans h
theorem JL.own (hE : w9.heap.size = E) : OwnFrom (E + 2) (JL w9 M E q ws L) := fun s A C row hs hg hr =>
  ⟨⟨hs.1.1.grown hg (fun r e => by have := (hr r e).1; omega), hs.1.2.1.own hg (fun r e => (hr r e).2), hs.1.2.2.1.own hg (fun r e => (hr r e).2), hs.1.2.2.2⟩,
    own_at hg hs.2.1 (fun r e => by have := (hr r e).1; omega), own_at hg hs.2.2 (fun r e => by have := (hr r e).1; omega)⟩
theorem JxL.own (hE : w9.heap.size = E) : OwnFrom (E + 2) (JxL w9 M E q ws L) := fun s A C row hs hg hr => by
  obtain ⟨⟨h1, h2, r, h3, h4⟩, h5, h6⟩ := hs
  exact ⟨⟨h1.grown hg (fun r e => by have := (hr r e).1; omega), h2.own hg (fun r e => (hr r e).2), r, h3.own hg (fun r e => (hr r e).2), h4⟩,
    own_at hg h5 (fun r e => by have := (hr r e).1; omega), own_at hg h6 (fun r e => by have := (hr r e).1; omega)⟩
theorem JL.below {pre : List (Nat × Ty)} {W W' : World} (h : JL w9 M E q ws L pre W) (hb : Below W.heap.size W W') : JL w9 M E q ws L pre W' :=
  ⟨⟨h.1.1.trans (Only.of_below' hb), h.1.2.1.below hb h.1.2.1.lt, h.1.2.2.1.below hb h.1.2.2.1.lt, h.1.2.2.2⟩, (hb.block _ (Array.getElem?_eq_some_iff.1 h.2.1).1).trans h.2.1, (hb.block _ (Array.getElem?_eq_some_iff.1 h.2.2).1).trans h.2.2⟩

/-- What a round leaves. -/
theorem turn_keeps {S : Nat} {W W' : World} {o : Obj} (h : Only [M + 2, M + 2 + 1, E + 1] W W') (hS : M + 2 + 1 < S) (hn : ∃ v, Blk W (M + 2) 3 v) (ho : ∃ v, Blk W (M + 2 + 1) 4 v) (hl : W.heap[E + 1]? = some o) (hc : o.isCells = false) (hE : M + 2 + 1 < E) :
    KpP (fun b => S ≤ b ∧ b < E) W W' ∧ KeepsFrom (E + 2) W W' := by
  obtain ⟨vn, hn⟩ := hn
  obtain ⟨vo, ho⟩ := ho
  refine ⟨⟨⟨h.size, fun b hb hl => h.block b hl (by simp; omega)⟩, fun j t vs ht hb => ?_⟩, ⟨h.size, fun k o' hk hko _ => (h.block k (Array.getElem?_eq_some_iff.1 hko).1 (by simp; omega)).trans hko⟩⟩
  refine (h.block j hb.lt ?_).trans hb
  intro hm
  simp at hm
  rcases hm with rfl | rfl | rfl
  · have := hn.symm.trans hb
    simp at this
    rcases ht with rfl | rfl <;> exact absurd this.2 (by decide)
  · have := ho.symm.trans hb
    simp at this
    rcases ht with rfl | rfl <;> exact absurd this.2 (by decide)
  · rw [show W.heap[E + 1]? = _ from hb] at hl
    cases hl
    cases hc

theorem turn_only {W We : World} {o : Obj} (hE : w9.heap.size = E) (hO : Only [M + 2, M + 2 + 1] w9 W) (h : Only [M + 2, M + 2 + 1, E + 1] W We) : Only [M + 2, M + 2 + 1] w9 (We.putObj (E + 1) o) :=
  hO.then (h.put (by simp) o) (fun x hx hl => by simp at hx ⊢; omega)
/-- A round that goes on. -/
theorem turn_true {S : Nat} {W We : World} {pre : List (Nat × Ty)} {x : Nat × Ty} {vn vo : Array Value} (hE : w9.heap.size = E) (hO : Only [M + 2, M + 2 + 1] w9 W) (h : Only [M + 2, M + 2 + 1, E + 1] W We) (hlE : We.heap[E + 1]? = some (.loop (L .busy none))) (hl : W.heap[E + 1]? = some (.loop (L .ready none))) (hD : W.heap[E]? = some (.deferred (some [])))
    (bn0 : Blk W (M + 2) 3 vn) (bo0 : Blk W (M + 2 + 1) 4 vo) (bn : Blk We (M + 2) 3 #[.int .i64 ((pre.length : Int) + 1)]) (bo : Blk We (M + 2 + 1) 4 #[.bool true]) (hpre : pre ++ [x] <+: ws) (hlt : pre.length + 1 < 1 + q) (hS : M + 2 + 1 < S) (hM : M + 2 + 1 < E) :
    JL w9 M E q ws L (pre ++ [x]) (We.putObj (E + 1) (.loop (L .ready none))) ∧ KpP (fun b => S ≤ b ∧ b < E) W (We.putObj (E + 1) (.loop (L .ready none))) ∧ KeepsFrom (E + 2) W (We.putObj (E + 1) (.loop (L .ready none))) := by
  refine ⟨⟨⟨turn_only hE hO h, ?_, bo.put _ hlE rfl, hpre, by simpa using hlt⟩, World.putObj_heap_same (Array.getElem?_eq_some_iff.1 hlE).1, ?_⟩, turn_keeps (h.put (by simp) _) hS ⟨_, bn0⟩ ⟨_, bo0⟩ hl rfl hM⟩
  · have := bn.put (.loop (L .ready none)) hlE rfl
    simpa using this
  · exact (World.putObj_heap_other (by omega)).trans ((h.block E (Array.getElem?_eq_some_iff.1 hD).1 (by simp; omega)).trans hD)
/-- A round that says that it wants no more. -/
theorem turn_false {W We : World} {pre : List (Nat × Ty)} {x : Nat × Ty} {vn vo : Array Value} {r : Bool} (hE : w9.heap.size = E) (hO : Only [M + 2, M + 2 + 1] w9 W) (h : Only [M + 2, M + 2 + 1, E + 1] W We) (hlE : We.heap[E + 1]? = some (.loop (L .busy none))) (hl : W.heap[E + 1]? = some (.loop (L .ready none))) (hD : W.heap[E]? = some (.deferred (some [])))
    (bn0 : Blk W (M + 2) 3 vn) (bo0 : Blk W (M + 2 + 1) 4 vo) (bn : Blk We (M + 2) 3 #[.int .i64 ((pre.length : Int) + 1)]) (bo : Blk We (M + 2 + 1) 4 #[.bool r]) (h1 : r = true → pre.length + 1 = 1 + q) (h2 : r = false → ¬ pre ++ [x] <+: ws) (hM : M + 2 + 1 < E) :
    JxL w9 M E q ws L (pre ++ [x]) (We.putObj (E + 1) (.loop (L .done (some (.exit 0))))) ∧ KeepsFrom (E + 2) W (We.putObj (E + 1) (.loop (L .done (some (.exit 0))))) := by
  refine ⟨⟨⟨turn_only hE hO h, ?_, r, bo.put _ hlE rfl, fun e => by simpa using h1 e, h2⟩, World.putObj_heap_same (Array.getElem?_eq_some_iff.1 hlE).1, ?_⟩, (turn_keeps (S := M + 2 + 2) (h.put (by simp) _) (by omega) ⟨_, bn0⟩ ⟨_, bo0⟩ hl rfl hM).2⟩
  · have := bn.put (.loop (L .done (some (.exit 0)))) hlE rfl
    simpa using this
  · exact (World.putObj_heap_other (by omega)).trans ((h.block E (Array.getElem?_eq_some_iff.1 hD).1 (by simp; omega)).trans hD)

theorem prefix_snoc {pre : List (Nat × Ty)} {x y : Nat × Ty} (h : pre <+: ws) (hx : ws[pre.length]? = some x) : pre ++ [y] <+: ws ↔ y = x := by
  obtain ⟨rest, rfl⟩ := h
  rw [List.getElem?_append_right (Nat.le_refl _), Nat.sub_self] at hx
  cases rest with
  | nil => simp at hx
  | cons z rest =>
    simp at hx
    subst hx
    rw [List.prefix_append_right_inj]
    simp

/-- One slot of the many is told otherwise: it is a type in memory. -/
def VL (vals : Nat → Value) (X : World → Value → Prop) (s : Nat) (w : World) (v : Value) : Prop := if s = 59 then X w v else v = vals s
theorem VL.mono {vals : Nat → Value} {X : World → Value → Prop} (hX : ∀ w w' v, X w v → Below w.heap.size w w' → X w' v) {s : Nat} {w w' : World} {v : Value} (h : VL vals X s w v) (hb : Below w.heap.size w w') : VL vals X s w' v := by
  unfold VL at *
  split
  · rename_i e
    rw [if_pos e] at h
    exact hX _ _ _ h hb
  · rename_i e
    rw [if_neg e] at h
    exact h
theorem VL.of {vals : Nat → Value} {X : World → Value → Prop} {s : Nat} {w : World} {v : Value} (h : VL vals X s w v) (hs : s ≠ 59) : v = vals s := by
  unfold VL at h
  rwa [if_neg hs] at h
theorem VL.at {vals : Nat → Value} {X : World → Value → Prop} {w : World} {v : Value} (h : VL vals X 59 w v) : X w v := by
  unfold VL at h
  rwa [if_pos rfl] at h
theorem VL.mk {vals : Nat → Value} {X : World → Value → Prop} {s : Nat} {w : World} (hs : s ≠ 59) : VL vals X s w (vals s) := by
  unfold VL
  rw [if_neg hs]
theorem VL.mkX {vals : Nat → Value} {X : World → Value → Prop} {w : World} {v : Value} (h : X w v) : VL vals X 59 w v := by
  unfold VL
  rw [if_pos rfl]
  exact h

/-- The values of the round's region, where the depths are the same (c) or not. -/
def valsL (gk gd len ck cd k d : Nat) (dk : Int) (S U : Value) (c r : Bool) : Nat → Value
  | 42 => .bool true
  | 43 => .bool true
  | 44 => .int .i64 k
  | 45 => .slice (some ⟨gk, 0, none⟩) len ck
  | 46 => .int .i64 len
  | 47 => .bool true
  | 48 => .bool true
  | 49 => .bool true
  | 50 => .int .i64 d
  | 51 => .slice (some ⟨gd, 0, none⟩) len cd
  | 52 => .int .i64 k
  | 53 => .pointer (some ⟨gd, k, none⟩)
  | 54 => .int .i64 dk
  | 55 => .bool c
  | 56 => .bool c
  | 57 => .bool c
  | 58 => bif c then S else undef
  | 60 => bif c then .slice (some ⟨gk, 0, none⟩) len ck else undef
  | 61 => bif c then .int .i64 k else undef
  | 62 => bif c then .pointer (some ⟨gk, k * 2, none⟩) else undef
  | 63 => bif c then U else undef
  | 64 => bif c then .bool r else undef
  | 65 => .bool (c && r)
  | _ => undef

end Go.Proofs.Ythcncdihgghbjaa
