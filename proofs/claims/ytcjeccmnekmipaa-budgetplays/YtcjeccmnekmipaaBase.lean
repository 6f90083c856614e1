/-
  Blocks of several cells as facts that go along through a walk; worlds that differ in some blocks alone; what a budget and the document's own budget hold.
-/
import Derived.Test.YtcjeccmnekmipaaRows
import Derived.WalkKit
import Derived.WalkSpells
namespace Go.Proofs.Ytcjeccmnekmipaa
open Go Go.RowKit

/-- BLOCK B HOLDS JUST THESE CELLS, of type t, none of them frozen. -/
def Blk (W : World) (B : Nat) (t : TypeId) (vs : Array Value) : Prop := W.heap[B]? = some (.cells vs t (0, 0))

theorem Blk.lt {W : World} {B : Nat} {t : TypeId} {vs : Array Value} (h : Blk W B t vs) : B < W.heap.size := (Array.getElem?_eq_some_iff.1 h).1
theorem Blk.cell {W : World} {B : Nat} {t : TypeId} {vs : Array Value} (h : Blk W B t vs) (i : Nat) : W.cell? ⟨B, i, none⟩ = vs[i]? := by simp [World.cell?, show W.heap[B]? = _ from h]
theorem Blk.frozen {W : World} {B : Nat} {t : TypeId} {vs : Array Value} (h : Blk W B t vs) (i : Nat) : W.frozen? ⟨B, i, none⟩ = false := by simp [World.frozen?, show W.heap[B]? = _ from h]
theorem alloc_heap_at (W : World) (o : Obj) : (W.alloc o).heap[W.heap.size]? = some o := by
  show (W.heap.push o)[W.heap.size]? = _
  simp
theorem Blk.new (W : World) (t : TypeId) (vs : Array Value) : Blk (W.alloc (.cells vs t)) W.heap.size t vs := alloc_heap_at W _
theorem Blk.new' (W : World) (B : Nat) (t : TypeId) (vs : Array Value) (h : W.heap.size = B) : Blk (W.alloc (.cells vs t)) B t vs := by subst h; exact alloc_heap_at W _
theorem Blk.alloc {W : World} {B : Nat} {t : TypeId} {vs : Array Value} (h : Blk W B t vs) (o : Obj) : Blk (W.alloc o) B t vs := (Below.heap_alloc W o B h.lt).trans h
theorem Blk.other {W : World} {B B' : Nat} {t : TypeId} {vs : Array Value} (h : Blk W B t vs) (hne : B ≠ B') (i : Nat) (u : Value) : Blk (W.setCell ⟨B', i, none⟩ u) B t vs :=
  (Below.heap_setCell W ⟨B', i, none⟩ u B hne).trans h
theorem Blk.set {W : World} {B : Nat} {t : TypeId} {vs : Array Value} (h : Blk W B t vs) (i : Nat) (v' : Value) : Blk (W.setCell ⟨B, i, none⟩ v') B t (vs.setIfInBounds i v') := by
  obtain ⟨hlt, hk⟩ := Array.getElem?_eq_some_iff.1 h
  show (W.heap.modify B _)[B]? = _
  rw [Array.getElem?_eq_getElem (by rw [Array.size_modify]; exact hlt), Array.getElem_modify_self, hk]
  rfl
theorem Blk.drew {W : World} {B : Nat} {t : TypeId} {vs : Array Value} (h : Blk W B t vs) : Blk W.drew B t vs := h

/-- BUT FOR THE BLOCKS OF S (and new ones) THE WORLD w' IS AS w WAS. -/
structure Only (S : List Nat) (w w' : World) : Prop where
  os : w'.os = w.os
  tape : w'.tape = w.tape
  output : w'.output = w.output
  size : w.heap.size ≤ w'.heap.size
  block : ∀ k, k < w.heap.size → k ∉ S → w'.heap[k]? = w.heap[k]?

theorem Only.refl (S : List Nat) (w : World) : Only S w w := ⟨rfl, rfl, rfl, Nat.le_refl _, fun _ _ _ => rfl⟩
theorem Only.trans {S : List Nat} {a b c : World} (h : Only S a b) (k : Only S b c) : Only S a c :=
  ⟨k.os.trans h.os, k.tape.trans h.tape, k.output.trans h.output, Nat.le_trans h.size k.size, fun i hi hs => (k.block i (Nat.lt_of_lt_of_le hi h.size) hs).trans (h.block i hi hs)⟩
theorem Only.mono {S T : List Nat} {w w' : World} (h : Only S w w') (hs : ∀ k ∈ S, k < w.heap.size → k ∈ T) : Only T w w' :=
  ⟨h.os, h.tape, h.output, h.size, fun k hk hn => h.block k hk (fun hm => hn (hs k hm hk))⟩
theorem Only.drew {S : List Nat} {a w : World} (h : Only S a w) : Only S a w.drew := ⟨h.os, h.tape, h.output, h.size, h.block⟩
theorem Only.alloc {S : List Nat} {a w : World} (h : Only S a w) (o : Obj) : Only S a (w.alloc o) :=
  h.trans ⟨rfl, rfl, rfl, by simp, fun k hk _ => Below.heap_alloc _ _ _ hk⟩
theorem Only.set {S : List Nat} {a w : World} (h : Only S a w) {B : Nat} (hB : B ∈ S) (i : Nat) (u : Value) : Only S a (w.setCell ⟨B, i, none⟩ u) :=
  h.trans ⟨rfl, rfl, rfl, by simp [World.setCell], fun k _ hs => Below.heap_setCell _ _ _ _ (fun e => hs (by rw [e]; exact hB))⟩
/-- a store into a block that is new against a -/
theorem Only.setNew {S : List Nat} {a w : World} (h : Only S a w) {B : Nat} (hB : a.heap.size ≤ B) (i : Nat) (u : Value) : Only S a (w.setCell ⟨B, i, none⟩ u) :=
  ⟨h.os, h.tape, h.output, by simpa [World.setCell] using h.size, fun k hk hs => (Below.heap_setCell w ⟨B, i, none⟩ u k (show k ≠ B by omega)).trans (h.block k hk hs)⟩
/-- behind a world that is older: what S holds may be new against a -/
theorem Only.then {S T : List Nat} {a b c : World} (h : Only S a b) (k : Only T b c) (hs : ∀ x ∈ T, x < a.heap.size → x ∈ S) : Only S a c :=
  ⟨k.os.trans h.os, k.tape.trans h.tape, k.output.trans h.output, Nat.le_trans h.size k.size, fun i hi hn => (k.block i (Nat.lt_of_lt_of_le hi h.size) (fun hm => hn (hs i hm hi))).trans (h.block i hi hn)⟩
theorem Only.below {S : List Nat} {w w' : World} (h : Only S w w') {n : Nat} (hn : n ≤ w.heap.size) (hs : ∀ k ∈ S, n ≤ k) : Below n w w' :=
  ⟨h.os, h.tape, h.output, h.size, fun k hk => h.block k (by omega) (fun hm => by have := hs k hm; omega)⟩
theorem Blk.only {S : List Nat} {W W' : World} {B : Nat} {t : TypeId} {vs : Array Value} (h : Blk W B t vs) (hk : Only S W W') (hB : B ∉ S) : Blk W' B t vs := (hk.block B h.lt hB).trans h
theorem Only.cell {S : List Nat} {w w' : World} (h : Only S w w') {p : Addr} (hp : p.block < w.heap.size) (hs : p.block ∉ S) : w'.cell? p = w.cell? p := World.cell?_of_block (w := w) (h.block p.block hp hs)

/-- What a budget has: left, used, whether it ran dry. -/
structure St where
  l : Int
  u : Int
  d : Bool

/-- the numbers stay far from where they would wrap round -/
def St.ok (s : St) : Prop := 0 ≤ s.l ∧ s.l ≤ 1000000000000 ∧ -1000000000000 ≤ s.u ∧ s.u ≤ 1000000000000

def flag (d : Bool) : Int := if d then 1 else 0
theorem flag_t : flag true = 1 := rfl
theorem flag_f : flag false = 0 := rfl

/-- A BUDGET LIES AT BLOCK B. -/
def Bud (W : World) (B : Nat) (s : St) : Prop :=
  Blk W B 60 #[.int .i64 s.l, .int .i64 s.u, .int .u32 (flag s.d), .int .i32 0, .int .u32 0, .int .u32 (flag s.d)]
/-- THE DOCUMENT's BUDGET LIES AT BLOCK C. -/
def Refb (W : World) (C : Nat) (s : St) : Prop := Blk W C 63 #[.int .i64 s.l, .int .i64 s.u, .bool s.d]

/-- P2.2 -/
def St.spend (s : St) (n : Int) : St :=
  if n < 0 then s else if s.d = true ∨ s.l < n then ⟨0, s.u + s.l, true⟩ else ⟨s.l - n, s.u + n, s.d⟩
def St.can (s : St) (n : Int) : Bool := decide (0 ≤ n) && (!s.d && decide (n ≤ s.l))
/-- how many are taken -/
def St.some (s : St) (n : Int) : Int := if n < 0 then 0 else if s.l < n then s.l else n
def St.less (s : St) (n : Int) : St := ⟨s.l - s.some n, s.u + s.some n, s.d⟩
def fresh (n : Int) : St := ⟨if n < 0 then 0 else n, 0, false⟩
/-- what comes back -/
def St.more (s o : St) : St := ⟨s.l + o.l, s.u - o.l, s.d || o.d⟩
def St.gone (o : St) : St := ⟨0, o.u + o.l, o.d⟩

end Go.Proofs.Ytcjeccmnekmipaa
