/-
  A type of arguments and one with arguments ahead, and two variables for them, in whatever order.
-/
import Derived.Test.YthcncdihgghbjaaThree
import Derived.Test.YthcncdihgghbjaaRest
namespace Go.Proofs.Ythcncdihgghbjaa
open Go Go.RowKit

def Out2 (s8 s9 : Value) (b : Nat) : Prop := s8 ≠ ptr b ∧ s9 ≠ ptr b

structure S2 (w1 : World) (t q r : Ty) (A B T m : Value) (b0 b1 b2 b3 b4 b5 b6 b7 b8 b9 : Bool) (s8 s9 s31 s32 s33 s34 s35 s36 s37 s38 : Value) (w : World) : Prop where
  cur : Cur w1 w
  l0 : b0 = true → s31 = A
  l1 : b1 = true → b0 = true ∧ s32 = B
  l2 : b2 = true → s33 = m
  c3 : b3 = true → b1 = true ∧ b2 = true ∧ ValAt w (Out2 s8 s9) q s34
  l4 : b4 = true → s35 = T
  c5 : b5 = true → b4 = true ∧ b3 = true ∧ ValAt w okT t s36
  l6 : b6 = true → s37 = m
  c7 : b7 = true → b5 = true ∧ b6 = true ∧ ValAt w (Out2 s8 s9) r s38
  a8 : b8 = true → BoxAt w1.heap.size w s8
  a9 : b9 = true → BoxAt w1.heap.size w s9
  n8 : b8 = false → s8 = undef
  n9 : b9 = false → s9 = undef
  d89 : b8 = true → b9 = true → s8 ≠ s9

variable {w1 w w' : World} {t q r : Ty} {A B T m : Value} {b0 b1 b2 b3 b4 b5 b6 b7 b8 b9 : Bool} {s8 s9 s31 s32 s33 s34 s35 s36 s37 s38 : Value}

theorem S2.bel (h : S2 w1 t q r A B T m b0 b1 b2 b3 b4 b5 b6 b7 b8 b9 s8 s9 s31 s32 s33 s34 s35 s36 s37 s38 w) (hb : Below w.heap.size w w') : S2 w1 t q r A B T m b0 b1 b2 b3 b4 b5 b6 b7 b8 b9 s8 s9 s31 s32 s33 s34 s35 s36 s37 s38 w' :=
  { h with
    cur := h.cur.then hb
    c3 := fun e => ⟨(h.c3 e).1, (h.c3 e).2.1, (h.c3 e).2.2.bel hb⟩
    c5 := fun e => ⟨(h.c5 e).1, (h.c5 e).2.1, (h.c5 e).2.2.bel hb⟩
    c7 := fun e => ⟨(h.c7 e).1, (h.c7 e).2.1, (h.c7 e).2.2.bel hb⟩
    a8 := fun e => (h.a8 e).bel hb
    a9 := fun e => (h.a9 e).bel hb }
theorem S2.old8 (h : S2 w1 t q r A B T m b0 b1 b2 b3 b4 b5 b6 b7 b8 b9 s8 s9 s31 s32 s33 s34 s35 s36 s37 s38 w) : s8 = undef ∨ ∃ b, s8 = ptr b ∧ b < w.heap.size := by
  cases b8
  · exact .inl (h.n8 rfl)
  · exact .inr (h.a8 rfl).lt
theorem S2.old9 (h : S2 w1 t q r A B T m b0 b1 b2 b3 b4 b5 b6 b7 b8 b9 s8 s9 s31 s32 s33 s34 s35 s36 s37 s38 w) : s9 = undef ∨ ∃ b, s9 = ptr b ∧ b < w.heap.size := by
  cases b9
  · exact .inl (h.n9 rfl)
  · exact .inr (h.a9 rfl).lt
theorem S2.fresh (h : S2 w1 t q r A B T m b0 b1 b2 b3 b4 b5 b6 b7 b8 b9 s8 s9 s31 s32 s33 s34 s35 s36 s37 s38 w) {y : Ty} {x : Value} {bs : Int} (hy : y.base = bs) (hx : Holds w' (fun b => w.heap.size ≤ b) y.args x) : ValAt w' (Out2 s8 s9) y (tv x bs) := by
  obtain ⟨a, c, e, _⟩ := hx.shape
  subst e
  subst hy
  exact ⟨a, _, c, rfl, hx.mono fun b _ hb => ⟨ne_new h.old8 hb, ne_new h.old9 hb⟩⟩
theorem ValAt.v8 {y : Ty} {s : Value} (h : ValAt w (Out2 s8 s9) y s) (o : Obj) : ValAt (w.alloc o) (Out2 (ptr w.heap.size) s9) y s := by
  obtain ⟨a, n, c, h1, h2⟩ := h
  exact ⟨a, n, c, h1, (h2.mono fun b hb ho => ⟨ptr_lt hb, ho.2⟩).alloc o⟩
theorem ValAt.v9 {y : Ty} {s : Value} (h : ValAt w (Out2 s8 s9) y s) (o : Obj) : ValAt (w.alloc o) (Out2 s8 (ptr w.heap.size)) y s := by
  obtain ⟨a, n, c, h1, h2⟩ := h
  exact ⟨a, n, c, h1, (h2.mono fun b hb ho => ⟨ho.1, ptr_lt hb⟩).alloc o⟩
theorem S2.alloc8 (h : S2 w1 t q r A B T m b0 b1 b2 b3 b4 b5 b6 b7 b8 b9 s8 s9 s31 s32 s33 s34 s35 s36 s37 s38 w) : S2 w1 t q r A B T m b0 b1 b2 b3 b4 b5 b6 b7 true b9 (ptr w.heap.size) s9 s31 s32 s33 s34 s35 s36 s37 s38 (w.alloc (.cells #[.slice none 0 0, .int .i64 0] 29)) :=
  { cur := h.cur.then (bel_alloc w _), l0 := h.l0, l1 := h.l1, l2 := h.l2, l4 := h.l4, l6 := h.l6
    c3 := fun e => ⟨(h.c3 e).1, (h.c3 e).2.1, (h.c3 e).2.2.v8 _⟩
    c5 := fun e => ⟨(h.c5 e).1, (h.c5 e).2.1, (h.c5 e).2.2.bel (bel_alloc w _)⟩
    c7 := fun e => ⟨(h.c7 e).1, (h.c7 e).2.1, (h.c7 e).2.2.v8 _⟩
    a8 := fun _ => BoxAt.new _ w (Below.size h.cur), a9 := fun e => (h.a9 e).bel (bel_alloc w _)
    n8 := fun e => by cases e
    n9 := h.n9
    d89 := fun _ _ => (ne_new h.old9 (Nat.le_refl _)).symm }
theorem S2.alloc9 (h : S2 w1 t q r A B T m b0 b1 b2 b3 b4 b5 b6 b7 b8 b9 s8 s9 s31 s32 s33 s34 s35 s36 s37 s38 w) : S2 w1 t q r A B T m b0 b1 b2 b3 b4 b5 b6 b7 b8 true s8 (ptr w.heap.size) s31 s32 s33 s34 s35 s36 s37 s38 (w.alloc (.cells #[.slice none 0 0, .int .i64 0] 29)) :=
  { cur := h.cur.then (bel_alloc w _), l0 := h.l0, l1 := h.l1, l2 := h.l2, l4 := h.l4, l6 := h.l6
    c3 := fun e => ⟨(h.c3 e).1, (h.c3 e).2.1, (h.c3 e).2.2.v9 _⟩
    c5 := fun e => ⟨(h.c5 e).1, (h.c5 e).2.1, (h.c5 e).2.2.bel (bel_alloc w _)⟩
    c7 := fun e => ⟨(h.c7 e).1, (h.c7 e).2.1, (h.c7 e).2.2.v9 _⟩
    a8 := fun e => (h.a8 e).bel (bel_alloc w _), a9 := fun _ => BoxAt.new _ w (Below.size h.cur)
    n8 := h.n8
    n9 := fun e => by cases e
    d89 := fun _ _ => ne_new h.old8 (Nat.le_refl _) }
theorem S2.s0 (h : S2 w1 t q r A B T m b0 b1 b2 b3 b4 b5 b6 b7 b8 b9 s8 s9 s31 s32 s33 s34 s35 s36 s37 s38 w) : S2 w1 t q r A B T m true b1 b2 b3 b4 b5 b6 b7 b8 b9 s8 s9 A s32 s33 s34 s35 s36 s37 s38 w :=
  { cur := h.cur, l0 := fun _ => rfl, l1 := fun e => ⟨rfl, (h.l1 e).2⟩, l2 := h.l2, c3 := h.c3, l4 := h.l4, c5 := h.c5, l6 := h.l6, c7 := h.c7, a8 := h.a8, a9 := h.a9, n8 := h.n8, n9 := h.n9, d89 := h.d89 }
theorem S2.s1 (h : S2 w1 t q r A B T m b0 b1 b2 b3 b4 b5 b6 b7 b8 b9 s8 s9 s31 s32 s33 s34 s35 s36 s37 s38 w) (e0 : b0 = true) : S2 w1 t q r A B T m b0 true b2 b3 b4 b5 b6 b7 b8 b9 s8 s9 s31 B s33 s34 s35 s36 s37 s38 w :=
  { cur := h.cur, l0 := h.l0, l1 := fun _ => ⟨e0, rfl⟩, l2 := h.l2, c3 := fun e => ⟨rfl, (h.c3 e).2⟩, l4 := h.l4, c5 := h.c5, l6 := h.l6, c7 := h.c7, a8 := h.a8, a9 := h.a9, n8 := h.n8, n9 := h.n9, d89 := h.d89 }
theorem S2.s2 (h : S2 w1 t q r A B T m b0 b1 b2 b3 b4 b5 b6 b7 b8 b9 s8 s9 s31 s32 s33 s34 s35 s36 s37 s38 w) : S2 w1 t q r A B T m b0 b1 true b3 b4 b5 b6 b7 b8 b9 s8 s9 s31 s32 m s34 s35 s36 s37 s38 w :=
  { cur := h.cur, l0 := h.l0, l1 := h.l1, l2 := fun _ => rfl, c3 := fun e => ⟨(h.c3 e).1, rfl, (h.c3 e).2.2⟩, l4 := h.l4, c5 := h.c5, l6 := h.l6, c7 := h.c7, a8 := h.a8, a9 := h.a9, n8 := h.n8, n9 := h.n9, d89 := h.d89 }
theorem S2.s4 (h : S2 w1 t q r A B T m b0 b1 b2 b3 b4 b5 b6 b7 b8 b9 s8 s9 s31 s32 s33 s34 s35 s36 s37 s38 w) : S2 w1 t q r A B T m b0 b1 b2 b3 true b5 b6 b7 b8 b9 s8 s9 s31 s32 s33 s34 T s36 s37 s38 w :=
  { cur := h.cur, l0 := h.l0, l1 := h.l1, l2 := h.l2, c3 := h.c3, l4 := fun _ => rfl, c5 := fun e => ⟨rfl, (h.c5 e).2⟩, l6 := h.l6, c7 := h.c7, a8 := h.a8, a9 := h.a9, n8 := h.n8, n9 := h.n9, d89 := h.d89 }
theorem S2.s6 (h : S2 w1 t q r A B T m b0 b1 b2 b3 b4 b5 b6 b7 b8 b9 s8 s9 s31 s32 s33 s34 s35 s36 s37 s38 w) : S2 w1 t q r A B T m b0 b1 b2 b3 b4 b5 true b7 b8 b9 s8 s9 s31 s32 s33 s34 s35 s36 m s38 w :=
  { cur := h.cur, l0 := h.l0, l1 := h.l1, l2 := h.l2, c3 := h.c3, l4 := h.l4, c5 := h.c5, l6 := fun _ => rfl, c7 := fun e => ⟨(h.c7 e).1, rfl, (h.c7 e).2.2⟩, a8 := h.a8, a9 := h.a9, n8 := h.n8, n9 := h.n9, d89 := h.d89 }
theorem S2.k3 (h : S2 w1 t q r A B T m b0 b1 b2 b3 b4 b5 b6 b7 b8 b9 s8 s9 s31 s32 s33 s34 s35 s36 s37 s38 w) (e1 : b1 = true) (e2 : b2 = true) (hb : Below w.heap.size w w') {x : Value} {bs : Int} (hy : q.base = bs) (hx : Holds w' (fun b => w.heap.size ≤ b) q.args x) : S2 w1 t q r A B T m b0 b1 b2 true b4 b5 b6 b7 b8 b9 s8 s9 s31 s32 s33 (tv x bs) s35 s36 s37 s38 w' :=
  let h' := h.bel hb
  { cur := h'.cur, l0 := h'.l0, l1 := h'.l1, l2 := h'.l2, c3 := fun _ => ⟨e1, e2, h.fresh hy hx⟩, l4 := h'.l4, c5 := fun e => ⟨(h'.c5 e).1, rfl, (h'.c5 e).2.2⟩, l6 := h'.l6, c7 := h'.c7, a8 := h'.a8, a9 := h'.a9, n8 := h'.n8, n9 := h'.n9, d89 := h'.d89 }
theorem S2.k5 (h : S2 w1 t q r A B T m b0 b1 b2 b3 b4 b5 b6 b7 b8 b9 s8 s9 s31 s32 s33 s34 s35 s36 s37 s38 w) (e4 : b4 = true) (e3 : b3 = true) (hb : Below w.heap.size w w') {x : Value} (hx : Holds w' (fun b => w.heap.size ≤ b) t.args x) : S2 w1 t q r A B T m b0 b1 b2 b3 b4 true b6 b7 b8 b9 s8 s9 s31 s32 s33 s34 s35 (tv x t.base) s37 s38 w' :=
  let h' := h.bel hb
  { cur := h'.cur, l0 := h'.l0, l1 := h'.l1, l2 := h'.l2, c3 := h'.c3, l4 := h'.l4
    c5 := fun _ => ⟨e4, e3, by
      obtain ⟨a, c, e, _⟩ := hx.shape
      subst e
      exact ⟨a, _, c, rfl, hx.t⟩⟩
    l6 := h'.l6, c7 := fun e => ⟨rfl, (h'.c7 e).2⟩, a8 := h'.a8, a9 := h'.a9, n8 := h'.n8, n9 := h'.n9, d89 := h'.d89 }
theorem S2.k7 (h : S2 w1 t q r A B T m b0 b1 b2 b3 b4 b5 b6 b7 b8 b9 s8 s9 s31 s32 s33 s34 s35 s36 s37 s38 w) (e5 : b5 = true) (e6 : b6 = true) (hb : Below w.heap.size w w') {x : Value} {bs : Int} (hy : r.base = bs) (hx : Holds w' (fun b => w.heap.size ≤ b) r.args x) : S2 w1 t q r A B T m b0 b1 b2 b3 b4 b5 b6 true b8 b9 s8 s9 s31 s32 s33 s34 s35 s36 s37 (tv x bs) w' :=
  let h' := h.bel hb
  { cur := h'.cur, l0 := h'.l0, l1 := h'.l1, l2 := h'.l2, c3 := h'.c3, l4 := h'.l4, c5 := h'.c5, l6 := h'.l6, c7 := fun _ => ⟨e5, e6, h.fresh hy hx⟩, a8 := h'.a8, a9 := h'.a9, n8 := h'.n8, n9 := h'.n9, d89 := h'.d89 }

end Go.Proofs.Ythcncdihgghbjaa
