/-
  Size: several texts in one file: Blk, Only, Holds, Size.
-/
import Derived.RangeFuncNested
import Derived.RangeFuncCalls
import Derived.WalkKit
import Derived.Test.YtckagmagjogmnaaTy
import Derived.Test.YtckagmagjogmnaaProg
import Derived.OwnWalk
import Derived.Deep.QuietTactic
import Derived.BigQuiet
namespace Go.Proofs.Ytckagmagjogmnaa
open Go Go.RowKit

/-- BLOCK B HOLDS JUST THESE CELLS, of type t, none of them frozen. -/
def Blk (W : World) (B : Nat) (t : TypeId) (vs : Array Value) : Prop := W.heap[B]? = some (.cells vs t (0, 0))

theorem Blk.lt {W : World} {B : Nat} {t : TypeId} {vs : Array Value} (h : Blk W B t vs) : B < W.heap.size := (Array.getElem?_eq_some_iff.1 h).1
theorem Blk.cell {W : World} {B : Nat} {t : TypeId} {vs : Array Value} (h : Blk W B t vs) (i : Nat) : W.cell? ⟨B, i, none⟩ = vs[i]? := by simp [World.cell?, show W.heap[B]? = _ from h]
theorem Blk.frozen {W : World} {B : Nat} {t : TypeId} {vs : Array Value} (h : Blk W B t vs) (i : Nat) : W.frozen? ⟨B, i, none⟩ = false := by simp [World.frozen?, show W.heap[B]? = _ from h]
theorem Blk.new (W : World) (t : TypeId) (vs : Array Value) : Blk (W.alloc (.cells vs t)) W.heap.size t vs := World.alloc_heap_new W _
theorem Blk.new' (W : World) (B : Nat) (t : TypeId) (vs : Array Value) (h : W.heap.size = B) : Blk (W.alloc (.cells vs t)) B t vs := by subst h; exact World.alloc_heap_new W _
theorem Blk.kept {W W' : World} {row : Option Nat} {B : Nat} {t : TypeId} {vs : Array Value} (h : Blk W B t vs) (hg : W.grownBy W' row) (hne : some B ≠ row) : Blk W' B t vs := (hg.block B h.lt hne).trans h
theorem Blk.alloc {W : World} {B : Nat} {t : TypeId} {vs : Array Value} (h : Blk W B t vs) (o : Obj) : Blk (W.alloc o) B t vs := h.kept (World.grownBy_alloc W o none) (by simp)
theorem Blk.own {W W' : World} {row : Option Nat} {B : Nat} {t : TypeId} {vs : Array Value} (h : Blk W B t vs) (hg : W.grownBy W' row) (hr : ∀ r, row = some r → ∃ o : Obj, W.heap[r]? = some o ∧ o.isCells = false) : Blk W' B t vs :=
  h.kept hg (fun e' => by obtain ⟨o, ho, hc⟩ := hr B e'.symm; rw [show W.heap[B]? = _ from h] at ho; cases ho; cases hc)
theorem Blk.below {W W' : World} {n B : Nat} {t : TypeId} {vs : Array Value} (h : Blk W B t vs) (hb : Below n W W') (hB : B < n) : Blk W' B t vs := (hb.block B hB).trans h
theorem grownBy_setCell_at (W : World) (b i : Nat) (v : Value) : W.grownBy (W.setCell ⟨b, i, none⟩ v) (some b) :=
  ⟨rfl, rfl, rfl, (KeepsWalks.setCell W _ v).size, fun k _ hk => Below.heap_setCell _ _ _ k (fun e => hk (by rw [e]))⟩
theorem Blk.other {W : World} {B B' : Nat} {t : TypeId} {vs : Array Value} (h : Blk W B t vs) (hne : B ≠ B') (i : Nat) (u : Value) : Blk (W.setCell ⟨B', i, none⟩ u) B t vs :=
  h.kept (grownBy_setCell_at W B' i u) (fun e => hne (by cases e; rfl))
theorem Blk.set {W : World} {B : Nat} {t : TypeId} {vs : Array Value} (h : Blk W B t vs) (i : Nat) (v' : Value) : Blk (W.setCell ⟨B, i, none⟩ v') B t (vs.setIfInBounds i v') := by
  obtain ⟨hlt, hk⟩ := Array.getElem?_eq_some_iff.1 h
  show (W.heap.modify B _)[B]? = _
  rw [Array.getElem?_eq_getElem (by rw [Array.size_modify]; exact hlt), Array.getElem_modify_self, hk]
  rfl
theorem bset {n B i : Nat} {a w : World} (h : Below n a w) (hB : n ≤ B) (u : Value) : Below n a (w.setCell ⟨B, i, none⟩ u) := h.setCell (p := ⟨B, i, none⟩) hB u
theorem Blk.drew {W : World} {B : Nat} {t : TypeId} {vs : Array Value} (h : Blk W B t vs) : Blk W.drew B t vs := h
theorem Blk.put {W : World} {B : Nat} {t : TypeId} {vs : Array Value} (h : Blk W B t vs) {l : Nat} {o : Obj} (o' : Obj) (hl : W.heap[l]? = some o) (ho : o.isCells = false) : Blk (W.putObj l o') B t vs :=
  h.own (grownBy_putObj' W l o') (fun r e => by cases e; exact ⟨_, hl, ho⟩)

end Go.Proofs.Ytckagmagjogmnaa

namespace Go.Proofs.Ytckagmagjogmnaa
open Go Go.RowKit

/-- BUT FOR THE BLOCKS OF S (and new ones) THE WORLD w' IS AS w WAS. -/
structure Only (S : List Nat) (w w' : World) : Prop where
  os : w'.os = w.os
  tape : w'.tape = w.tape
  output : w'.output = w.output
  size : w.heap.size ≤ w'.heap.size
  block : ∀ k, k < w.heap.size → k ∉ S → w'.heap[k]? = w.heap[k]?

theorem Only.refl (S : List Nat) (w : World) : Only S w w := ⟨rfl, rfl, rfl, Nat.le_refl _, fun _ _ _ => rfl⟩
theorem Only.trans {S : List Nat} {a b c : World} (h : Only S a b) (k : Only S b c) : Only S a c :=
  ⟨k.os.trans h.os, k.tape.trans h.tape, k.output.trans h.output, Nat.le_trans h.size k.size, fun i hi hs => (k.block i (Nat.lt_of_lt_of_le hi h.size) hs).trans (h.block i hi hs)⟩
theorem Only.mono {S T : List Nat} {w w' : World} (h : Only S w w') (hs : ∀ k ∈ S, k < w.heap.size → k ∈ T) : Only T w w' :=
  ⟨h.os, h.tape, h.output, h.size, fun k hk hn => h.block k hk (fun hm => hn (hs k hm hk))⟩
theorem Only.drew {S : List Nat} {a w : World} (h : Only S a w) : Only S a w.drew := ⟨h.os, h.tape, h.output, h.size, h.block⟩
theorem Only.alloc {S : List Nat} {a w : World} (h : Only S a w) (o : Obj) : Only S a (w.alloc o) :=
  h.trans ⟨rfl, rfl, rfl, by simp, fun k hk _ => Below.heap_alloc _ _ _ hk⟩
theorem Only.set {S : List Nat} {a w : World} (h : Only S a w) {B : Nat} (hB : B ∈ S) (i : Nat) (u : Value) : Only S a (w.setCell ⟨B, i, none⟩ u) :=
  h.trans ⟨rfl, rfl, rfl, by simp [World.setCell], fun k _ hs => Below.heap_setCell _ _ _ _ (fun e => hs (by rw [e]; exact hB))⟩
/-- a store into a block that is new against a -/
theorem Only.setNew {S : List Nat} {a w : World} (h : Only S a w) {B : Nat} (hB : a.heap.size ≤ B) (i : Nat) (u : Value) : Only S a (w.setCell ⟨B, i, none⟩ u) :=
  ⟨h.os, h.tape, h.output, by simpa [World.setCell] using h.size, fun k hk hs => (Below.heap_setCell w ⟨B, i, none⟩ u k (show k ≠ B by omega)).trans (h.block k hk hs)⟩
/-- behind a world that is older: what S holds may be new against a -/
theorem Only.then {S T : List Nat} {a b c : World} (h : Only S a b) (k : Only T b c) (hs : ∀ x ∈ T, x < a.heap.size → x ∈ S) : Only S a c :=
  ⟨k.os.trans h.os, k.tape.trans h.tape, k.output.trans h.output, Nat.le_trans h.size k.size, fun i hi hn => (k.block i (Nat.lt_of_lt_of_le hi h.size) (fun hm => hn (hs i hm hi))).trans (h.block i hi hn)⟩
theorem Only.below {S : List Nat} {w w' : World} (h : Only S w w') {n : Nat} (hn : n ≤ w.heap.size) (hs : ∀ k ∈ S, n ≤ k) : Below n w w' :=
  ⟨h.os, h.tape, h.output, h.size, fun k hk => h.block k (by omega) (fun hm => by have := hs k hm; omega)⟩
theorem Blk.only {S : List Nat} {W W' : World} {B : Nat} {t : TypeId} {vs : Array Value} (h : Blk W B t vs) (hk : Only S W W') (hB : B ∉ S) : Blk W' B t vs := (hk.block B h.lt hB).trans h
theorem Only.cell {S : List Nat} {w w' : World} (h : Only S w w') {p : Addr} (hp : p.block < w.heap.size) (hs : p.block ∉ S) : w'.cell? p = w.cell? p := World.cell?_of_block (w := w) (h.block p.block hp hs)

theorem Only.of_below {S : List Nat} {w w' : World} {n : Nat} (h : Below n w w') (hn : ∀ k, n ≤ k → k < w.heap.size → k ∈ S) : Only S w w' :=
  ⟨h.os, h.tape, h.output, h.size, fun k hk hs => h.block k (Nat.lt_of_not_le fun hle => hs (hn k hle hk))⟩
theorem Only.of_below' {S : List Nat} {w w' : World} (h : Below w.heap.size w w') : Only S w w' := Only.of_below h (fun k h1 h2 => by omega)

end Go.Proofs.Ytckagmagjogmnaa

namespace Go.Proofs.Ytckagmagjogmnaa
open Go Go.RowKit

/-- THE SLICE v HOLDS JUST THESE TYPES, and they theirs, in blocks that ok lets by: a type has two cells: its arguments' slice and its base. -/
inductive Holds (w : World) (ok : Nat → Prop) : List Ty → Value → Prop
  | mk (ts : List Ty) (a : Option Addr) (cap : Nat) (f : Nat → Value) (hcap : ts.length ≤ cap) (hnil : a = none → cap = 0)
    (hc : ∀ i t, ts[i]? = some t → ∃ g o, a = some ⟨g, o, none⟩ ∧ ok g ∧ w.cell? ⟨g, o + i * 2, none⟩ = some (f i) ∧ w.cell? ⟨g, o + i * 2 + 1, none⟩ = some (.int .i64 t.base))
    (hr : ∀ i t, ts[i]? = some t → Holds w ok t.args (f i)) : Holds w ok ts (.slice a ts.length cap)

theorem lt_of_cell {w : World} {p : Addr} {v : Value} (h : w.cell? p = some v) : p.block < w.heap.size := by
  rcases Nat.lt_or_ge p.block w.heap.size with hl | hl
  · exact hl
  · have e : w.heap[p.block]? = none := Array.getElem?_eq_none hl
    unfold World.cell? at h
    rw [e] at h
    simp at h

theorem Holds.shape {w : World} {ok : Nat → Prop} {ts : List Ty} {v : Value} (h : Holds w ok ts v) : ∃ a cap, v = .slice a ts.length cap ∧ ts.length ≤ cap ∧
    ∀ i t, ts[i]? = some t → ∃ g o s, a = some ⟨g, o, none⟩ ∧ ok g ∧ g < w.heap.size ∧ w.cell? ⟨g, o + i * 2, none⟩ = some s ∧ w.cell? ⟨g, o + i * 2 + 1, none⟩ = some (.int .i64 t.base) ∧ Holds w ok t.args s := by
  cases h with
  | mk ts a cap f hcap hnil hc hr =>
    refine ⟨a, cap, rfl, hcap, fun i t ht => ?_⟩
    obtain ⟨g, o, h1, h2, h3, h4⟩ := hc i t ht
    exact ⟨g, o, f i, h1, h2, lt_of_cell h3, h3, h4, hr i t ht⟩

theorem Holds.keep {w w' : World} {ok ok' : Nat → Prop} {ts : List Ty} {v : Value} (h : Holds w ok ts v) (hb : ∀ b, b < w.heap.size → ok b → w'.heap[b]? = w.heap[b]? ∧ ok' b) : Holds w' ok' ts v := by
  induction h with
  | mk ts a cap f hcap hnil hc hr ih =>
    refine .mk ts a cap f hcap hnil (fun i t ht => ?_) ih
    obtain ⟨g, o, h1, h2, h3, h4⟩ := hc i t ht
    have hk := hb g (lt_of_cell h3) h2
    exact ⟨g, o, h1, hk.2, (World.cell?_of_block (w := w) (a := ⟨g, o + i * 2, none⟩) hk.1).trans h3, (World.cell?_of_block (w := w) (a := ⟨g, o + i * 2 + 1, none⟩) hk.1).trans h4⟩
theorem Holds.mono {w : World} {ok ok' : Nat → Prop} {ts : List Ty} {v : Value} (h : Holds w ok ts v) (hb : ∀ b, b < w.heap.size → ok b → ok' b) : Holds w ok' ts v := h.keep fun b hl ho => ⟨rfl, hb b hl ho⟩
theorem Holds.bel {w w' : World} {ok : Nat → Prop} {ts : List Ty} {v : Value} (h : Holds w ok ts v) (hb : Below w.heap.size w w') : Holds w' ok ts v := h.keep fun b hl ho => ⟨hb.block b hl, ho⟩
/-- where all blocks lie below n -/
theorem Holds.belN {w w' : World} {n : Nat} {ok : Nat → Prop} {ts : List Ty} {v : Value} (h : Holds w ok ts v) (hn : ∀ b, ok b → b < n) (hb : Below n w w') : Holds w' ok ts v := h.keep fun b _ ho => ⟨hb.block b (hn b ho), ho⟩
theorem Holds.drew {w : World} {ok : Nat → Prop} {ts : List Ty} {v : Value} (h : Holds w ok ts v) : Holds w.drew ok ts v := h.keep fun _ _ ho => ⟨rfl, ho⟩
theorem Holds.alloc {w : World} {ok : Nat → Prop} {ts : List Ty} {v : Value} (h : Holds w ok ts v) (o : Obj) : Holds (w.alloc o) ok ts v := h.bel (Below.refl _ _ |>.alloc (Nat.le_refl _) o)
theorem Holds.nil (w : World) (ok : Nat → Prop) (a : Option Addr) (cap : Nat) (h : a = none → cap = 0) : Holds w ok [] (.slice a 0 cap) := .mk [] a cap (fun _ => .slice none 0 0) (Nat.zero_le _) h (fun i t h => by simp at h) (fun i t h => by simp at h)

theorem take_get {ts : List Ty} {k i : Nat} {t : Ty} (hi : (ts.take k)[i]? = some t) : ts[i]? = some t := by
  rw [List.getElem?_take] at hi
  split at hi
  · exact hi
  · cases hi
/-- a part of a slice: from k on -/
theorem Holds.drop {w : World} {ok : Nat → Prop} {ts : List Ty} {a : Option Addr} {n cap : Nat} (h : Holds w ok ts (.slice a n cap)) (k : Nat) (hk : k < ts.length) :
    ∃ g o, a = some ⟨g, o, none⟩ ∧ Holds w ok (ts.drop k) (.slice (some ⟨g, o + k * 2, none⟩) (n - k) (cap - k)) := by
  generalize hv : Value.slice a n cap = v at h
  cases h with
  | mk ts a' cap' f hcap hnil hc hr =>
    cases hv
    obtain ⟨t, ht⟩ : ∃ t, ts[k]? = some t := ⟨_, List.getElem?_eq_getElem hk⟩
    obtain ⟨g, o, rfl, hg, _⟩ := hc k t ht
    refine ⟨g, o, rfl, ?_⟩
    have e : ts.length - k = (ts.drop k).length := by simp
    rw [e]
    refine .mk (ts.drop k) _ _ (fun i => f (k + i)) (by simp; omega) (fun h => by cases h) (fun i t hi => ?_) (fun i t hi => ?_)
    · rw [List.getElem?_drop] at hi
      obtain ⟨g', o', e1, _, h3, h4⟩ := hc (k + i) t hi
      cases e1
      refine ⟨g, o + k * 2, rfl, hg, ?_, ?_⟩
      · rw [← h3]; congr 2; omega
      · rw [← h4]; congr 2; omega
    · rw [List.getElem?_drop] at hi
      exact hr (k + i) t hi
theorem Holds.take {w : World} {ok : Nat → Prop} {ts : List Ty} {a : Option Addr} {n cap : Nat} (h : Holds w ok ts (.slice a n cap)) (k : Nat) (hk : k ≤ ts.length) (c : Nat) (hc' : k ≤ c) (hn' : a = none → c = 0) :
    Holds w ok (ts.take k) (.slice a k c) := by
  generalize hv : Value.slice a n cap = v at h
  cases h with
  | mk ts a' cap' f hcap hnil hc hr =>
    cases hv
    have e : k = (ts.take k).length := by simp; omega
    have := Holds.mk (w := w) (ok := ok) (ts.take k) a c f (by omega) hn'
      (fun i t hi => hc i t (take_get hi))
      (fun i t hi => hr i t (take_get hi))
    rwa [← e] at this

theorem Holds.isnil {w : World} {ok : Nat → Prop} {ts : List Ty} {n cap : Nat} (h : Holds w ok ts (.slice none n cap)) : n = 0 ∧ cap = 0 ∧ ts = [] := by
  generalize hv : Value.slice none n cap = v at h
  cases h with
  | mk ts a' cap' f hcap hnil hc hr =>
    cases hv
    have h0 := hnil rfl
    refine ⟨by omega, h0, List.eq_nil_of_length_eq_zero (by omega)⟩
theorem Holds.ofnil {w : World} {ok : Nat → Prop} {n cap : Nat} {a : Option Addr} (h : Holds w ok [] (.slice a n cap)) (ok' : Nat → Prop) (w' : World) : Holds w' ok' [] (.slice a n cap) := by
  generalize hv : Value.slice a n cap = v at h
  cases h with
  | mk ts a' cap' f hcap hnil hc hr =>
    cases hv
    exact Holds.nil _ _ _ _ hnil

/-- A struct of a type, as a value. -/
abbrev tv (s : Value) (b : Int) : Value := .agg #[s, .int .i64 b]

end Go.Proofs.Ytckagmagjogmnaa

namespace Go.Proofs.Ytckagmagjogmnaa
open Go Go.RowKit

theorem cat {w w' : World} {n g o : Nat} (h : Below n w w') (hg : g < n) : w'.cell? ⟨g, o, none⟩ = w.cell? ⟨g, o, none⟩ := h.cell (p := ⟨g, o, none⟩) hg
theorem ret_int {k : IntKind} {a b : Int} (h : a = b) : Ending.returned (.int k a) = .returned (.int k b) := by rw [h]
theorem ret_bool {a b : Bool} (h : a = b) : Ending.returned (.bool a) = .returned (.bool b) := by rw [h]

theorem sizeL_take {ts : List Ty} {k : Nat} {t : Ty} (h : ts[k]? = some t) : sizeL (ts.take (k + 1)) = sizeL (ts.take k) + t.size := by
  rw [List.take_add_one, h, sizeL_append]; simp [sizeL]
theorem sizeL_take_le (ts : List Ty) (k : Nat) : sizeL (ts.take k) ≤ sizeL ts := by
  conv => rhs; rw [← List.take_append_drop k ts, sizeL_append]
  omega
theorem depthL_take {ts : List Ty} {k : Nat} {t : Ty} (h : ts[k]? = some t) : depthL (ts.take (k + 1)) = max (depthL (ts.take k)) t.depth := by
  rw [List.take_add_one, h, depthL_append]; simp [depthL]

theorem depthL_take_le (ts : List Ty) (k : Nat) : depthL (ts.take k) ≤ sizeL ts := by
  have h1 := depthL_le_sizeL (ts.take k) (fun t _ => t.depth_le_size)
  have h2 := sizeL_take_le ts k
  omega

end Go.Proofs.Ytckagmagjogmnaa

