/-
  Worlds that differ in some blocks alone.
-/
import Derived.Test.YtheokboggjnenaaBlk
namespace Go.Proofs.Ytheokboggjnenaa
open Go Go.RowKit

/-- BUT FOR THE BLOCKS OF S (and new ones) THE WORLD w' IS AS w WAS. -/
structure Only (S : List Nat) (w w' : World) : Prop where
  os : w'.os = w.os
  tape : w'.tape = w.tape
  output : w'.output = w.output
  size : w.heap.size ≤ w'.heap.size
  block : ∀ k, k < w.heap.size → k ∉ S → w'.heap[k]? = w.heap[k]?

theorem Only.refl (S : List Nat) (w : World) : Only S w w := ⟨rfl, rfl, rfl, Nat.le_refl _, fun _ _ _ => rfl⟩
theorem Only.trans {S : List Nat} {a b c : World} (h : Only S a b) (k : Only S b c) : Only S a c :=
  ⟨k.os.trans h.os, k.tape.trans h.tape, k.output.trans h.output, Nat.le_trans h.size k.size, fun i hi hs => (k.block i (Nat.lt_of_lt_of_le hi h.size) hs).trans (h.block i hi hs)⟩
theorem Only.mono {S T : List Nat} {w w' : World} (h : Only S w w') (hs : ∀ k ∈ S, k < w.heap.size → k ∈ T) : Only T w w' :=
  ⟨h.os, h.tape, h.output, h.size, fun k hk hn => h.block k hk (fun hm => hn (hs k hm hk))⟩
theorem Only.drew {S : List Nat} {a w : World} (h : Only S a w) : Only S a w.drew := ⟨h.os, h.tape, h.output, h.size, h.block⟩
theorem Only.alloc {S : List Nat} {a w : World} (h : Only S a w) (o : Obj) : Only S a (w.alloc o) :=
  h.trans ⟨rfl, rfl, rfl, by simp, fun k hk _ => Below.heap_alloc _ _ _ hk⟩
theorem Only.set {S : List Nat} {a w : World} (h : Only S a w) {B : Nat} (hB : B ∈ S) (i : Nat) (u : Value) : Only S a (w.setCell ⟨B, i, none⟩ u) :=
  h.trans ⟨rfl, rfl, rfl, by simp [World.setCell], fun k _ hs => Below.heap_setCell _ _ _ _ (fun e => hs (by rw [e]; exact hB))⟩
/-- a store into a block that is new against a -/
theorem Only.setNew {S : List Nat} {a w : World} (h : Only S a w) {B : Nat} (hB : a.heap.size ≤ B) (i : Nat) (u : Value) : Only S a (w.setCell ⟨B, i, none⟩ u) :=
  ⟨h.os, h.tape, h.output, by simpa [World.setCell] using h.size, fun k hk hs => (Below.heap_setCell w ⟨B, i, none⟩ u k (show k ≠ B by omega)).trans (h.block k hk hs)⟩
/-- behind a world that is older: what S holds may be new against a -/
theorem Only.then {S T : List Nat} {a b c : World} (h : Only S a b) (k : Only T b c) (hs : ∀ x ∈ T, x < a.heap.size → x ∈ S) : Only S a c :=
  ⟨k.os.trans h.os, k.tape.trans h.tape, k.output.trans h.output, Nat.le_trans h.size k.size, fun i hi hn => (k.block i (Nat.lt_of_lt_of_le hi h.size) (fun hm => hn (hs i hm hi))).trans (h.block i hi hn)⟩
theorem Only.below {S : List Nat} {w w' : World} (h : Only S w w') {n : Nat} (hn : n ≤ w.heap.size) (hs : ∀ k ∈ S, n ≤ k) : Below n w w' :=
  ⟨h.os, h.tape, h.output, h.size, fun k hk => h.block k (by omega) (fun hm => by have := hs k hm; omega)⟩
theorem Blk.only {S : List Nat} {W W' : World} {B : Nat} {t : TypeId} {vs : Array Value} (h : Blk W B t vs) (hk : Only S W W') (hB : B ∉ S) : Blk W' B t vs := (hk.block B h.lt hB).trans h
theorem Only.cell {S : List Nat} {w w' : World} (h : Only S w w') {p : Addr} (hp : p.block < w.heap.size) (hs : p.block ∉ S) : w'.cell? p = w.cell? p := World.cell?_of_block (w := w) (h.block p.block hp hs)

theorem Only.of_below {S : List Nat} {w w' : World} {n : Nat} (h : Below n w w') (hn : ∀ k, n ≤ k → k < w.heap.size → k ∈ S) : Only S w w' :=
  ⟨h.os, h.tape, h.output, h.size, fun k hk hs => h.block k (Nat.lt_of_not_le fun hle => hs (hn k hle hk))⟩
theorem Only.of_below' {S : List Nat} {w w' : World} (h : Below w.heap.size w w') : Only S w w' := Only.of_below h (fun k h1 h2 => by omega)

end Go.Proofs.Ytheokboggjnenaa
