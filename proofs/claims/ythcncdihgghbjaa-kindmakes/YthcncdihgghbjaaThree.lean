/-
  Three types told in memory of their own, and three variables for them, in whatever order.
-/
import Derived.Test.YthcncdihgghbjaaStage
namespace Go.Proofs.Ythcncdihgghbjaa
open Go Go.RowKit

abbrev ptr (b : Nat) : Value := .pointer (some ⟨b, 0, none⟩)
/-- No variable's block. -/
def Out3 (s7 s8 s9 : Value) (b : Nat) : Prop := s7 ≠ ptr b ∧ s8 ≠ ptr b ∧ s9 ≠ ptr b
/-- A type in memory, as a value. -/
def ValAt (w : World) (ok : Nat → Prop) (q : Ty) (s : Value) : Prop := ∃ a n c, s = tv (.slice a n c) q.base ∧ Holds w ok q.args (.slice a n c)
/-- A new variable. -/
def BoxAt (m : Nat) (w : World) (s : Value) : Prop := ∃ b, s = ptr b ∧ Blk w b 29 #[.slice none 0 0, .int .i64 0] ∧ m ≤ b
theorem ValAt.bel {w w' : World} {ok : Nat → Prop} {q : Ty} {s : Value} (h : ValAt w ok q s) (hb : Below w.heap.size w w') : ValAt w' ok q s := by
  obtain ⟨a, n, c, h1, h2⟩ := h
  exact ⟨a, n, c, h1, h2.bel hb⟩
theorem BoxAt.bel {m : Nat} {w w' : World} {s : Value} (h : BoxAt m w s) (hb : Below w.heap.size w w') : BoxAt m w' s := by
  obtain ⟨b, h1, h2, h3⟩ := h
  exact ⟨b, h1, h2.below hb h2.lt, h3⟩

/-- What holds, whichever of the operations have come up. -/
structure St (w1 : World) (t u v : Ty) (T U V : Value) (b0 b1 b2 b3 b4 b5 b6 b7 b8 : Bool) (s7 s8 s9 s20 s21 s22 s23 s24 s25 : Value) (w : World) : Prop where
  cur : Cur w1 w
  l0 : b0 = true → s20 = T
  l2 : b2 = true → s22 = U
  l4 : b4 = true → s24 = V
  c1 : b1 = true → b0 = true ∧ ValAt w (Out3 s7 s8 s9) t s21
  c3 : b3 = true → b2 = true ∧ b1 = true ∧ ValAt w (Out3 s7 s8 s9) u s23
  c5 : b5 = true → b4 = true ∧ b3 = true ∧ ValAt w (Out3 s7 s8 s9) v s25
  a6 : b6 = true → BoxAt w1.heap.size w s7
  a7 : b7 = true → BoxAt w1.heap.size w s8
  a8 : b8 = true → BoxAt w1.heap.size w s9
  n6 : b6 = false → s7 = undef
  n7 : b7 = false → s8 = undef
  n8 : b8 = false → s9 = undef
  d67 : b6 = true → b7 = true → s7 ≠ s8
  d68 : b6 = true → b8 = true → s7 ≠ s9
  d78 : b7 = true → b8 = true → s8 ≠ s9

variable {w1 w w' : World} {t u v : Ty} {T U V : Value} {b0 b1 b2 b3 b4 b5 b6 b7 b8 : Bool} {s7 s8 s9 s20 s21 s22 s23 s24 s25 : Value}

theorem St.bel (h : St w1 t u v T U V b0 b1 b2 b3 b4 b5 b6 b7 b8 s7 s8 s9 s20 s21 s22 s23 s24 s25 w) (hb : Below w.heap.size w w') : St w1 t u v T U V b0 b1 b2 b3 b4 b5 b6 b7 b8 s7 s8 s9 s20 s21 s22 s23 s24 s25 w' :=
  { h with
    cur := h.cur.then hb
    c1 := fun e => ⟨(h.c1 e).1, (h.c1 e).2.bel hb⟩
    c3 := fun e => ⟨(h.c3 e).1, (h.c3 e).2.1, (h.c3 e).2.2.bel hb⟩
    c5 := fun e => ⟨(h.c5 e).1, (h.c5 e).2.1, (h.c5 e).2.2.bel hb⟩
    a6 := fun e => (h.a6 e).bel hb
    a7 := fun e => (h.a7 e).bel hb
    a8 := fun e => (h.a8 e).bel hb }
/-- A variable's block lies in the world. -/
theorem BoxAt.lt {m : Nat} {s : Value} (h : BoxAt m w s) : ∃ b, s = ptr b ∧ b < w.heap.size := by
  obtain ⟨b, h1, h2, _⟩ := h
  exact ⟨b, h1, h2.lt⟩
theorem undef_ptr (b : Nat) : undef ≠ ptr b := by intro h; cases h
theorem St.old7 (h : St w1 t u v T U V b0 b1 b2 b3 b4 b5 b6 b7 b8 s7 s8 s9 s20 s21 s22 s23 s24 s25 w) : s7 = undef ∨ ∃ b, s7 = ptr b ∧ b < w.heap.size := by
  cases b6
  · exact .inl (h.n6 rfl)
  · exact .inr (h.a6 rfl).lt
theorem St.old8 (h : St w1 t u v T U V b0 b1 b2 b3 b4 b5 b6 b7 b8 s7 s8 s9 s20 s21 s22 s23 s24 s25 w) : s8 = undef ∨ ∃ b, s8 = ptr b ∧ b < w.heap.size := by
  cases b7
  · exact .inl (h.n7 rfl)
  · exact .inr (h.a7 rfl).lt
theorem St.old9 (h : St w1 t u v T U V b0 b1 b2 b3 b4 b5 b6 b7 b8 s7 s8 s9 s20 s21 s22 s23 s24 s25 w) : s9 = undef ∨ ∃ b, s9 = ptr b ∧ b < w.heap.size := by
  cases b8
  · exact .inl (h.n8 rfl)
  · exact .inr (h.a8 rfl).lt
theorem ne_new {s : Value} {n b : Nat} (h : s = undef ∨ ∃ b, s = ptr b ∧ b < n) (hb : n ≤ b) : s ≠ ptr b := by
  rcases h with rfl | ⟨c, rfl, hc⟩
  · exact undef_ptr b
  · intro e; cases e; omega
/-- What a call makes is none of the variables. -/
theorem St.fresh (h : St w1 t u v T U V b0 b1 b2 b3 b4 b5 b6 b7 b8 s7 s8 s9 s20 s21 s22 s23 s24 s25 w) {q : Ty} {x : Value} (hx : Holds w' (fun b => w.heap.size ≤ b) q.args x) : ValAt w' (Out3 s7 s8 s9) q (tv x q.base) := by
  obtain ⟨a, c, e, _⟩ := hx.shape
  subst e
  exact ⟨a, _, c, rfl, hx.mono fun b _ hb => ⟨ne_new h.old7 hb, ne_new h.old8 hb, ne_new h.old9 hb⟩⟩
theorem ptr_lt {b n : Nat} (hb : b < n) : ptr n ≠ ptr b := by intro e; cases e; omega
theorem ValAt.w7 {q : Ty} {s : Value} (h : ValAt w (Out3 s7 s8 s9) q s) (o : Obj) : ValAt (w.alloc o) (Out3 (ptr w.heap.size) s8 s9) q s := by
  obtain ⟨a, n, c, h1, h2⟩ := h
  exact ⟨a, n, c, h1, (h2.mono fun b hb ho => ⟨ptr_lt hb, ho.2.1, ho.2.2⟩).alloc o⟩
theorem ValAt.w8 {q : Ty} {s : Value} (h : ValAt w (Out3 s7 s8 s9) q s) (o : Obj) : ValAt (w.alloc o) (Out3 s7 (ptr w.heap.size) s9) q s := by
  obtain ⟨a, n, c, h1, h2⟩ := h
  exact ⟨a, n, c, h1, (h2.mono fun b hb ho => ⟨ho.1, ptr_lt hb, ho.2.2⟩).alloc o⟩
theorem ValAt.w9 {q : Ty} {s : Value} (h : ValAt w (Out3 s7 s8 s9) q s) (o : Obj) : ValAt (w.alloc o) (Out3 s7 s8 (ptr w.heap.size)) q s := by
  obtain ⟨a, n, c, h1, h2⟩ := h
  exact ⟨a, n, c, h1, (h2.mono fun b hb ho => ⟨ho.1, ho.2.1, ptr_lt hb⟩).alloc o⟩
theorem BoxAt.new (m : Nat) (w : World) (h : m ≤ w.heap.size) : BoxAt m (w.alloc (.cells #[.slice none 0 0, .int .i64 0] 29)) (ptr w.heap.size) := ⟨_, rfl, Blk.new w 29 _, h⟩
theorem bel_alloc (w : World) (o : Obj) : Below w.heap.size w (w.alloc o) := (Below.refl _ _).alloc (Nat.le_refl _) o

theorem St.alloc7 (h : St w1 t u v T U V b0 b1 b2 b3 b4 b5 b6 b7 b8 s7 s8 s9 s20 s21 s22 s23 s24 s25 w) : St w1 t u v T U V b0 b1 b2 b3 b4 b5 true b7 b8 (ptr w.heap.size) s8 s9 s20 s21 s22 s23 s24 s25 (w.alloc (.cells #[.slice none 0 0, .int .i64 0] 29)) :=
  { cur := h.cur.then (bel_alloc w _), l0 := h.l0, l2 := h.l2, l4 := h.l4
    c1 := fun e => ⟨(h.c1 e).1, (h.c1 e).2.w7 _⟩
    c3 := fun e => ⟨(h.c3 e).1, (h.c3 e).2.1, (h.c3 e).2.2.w7 _⟩
    c5 := fun e => ⟨(h.c5 e).1, (h.c5 e).2.1, (h.c5 e).2.2.w7 _⟩
    a6 := fun _ => BoxAt.new _ w (Below.size h.cur), a7 := fun e => (h.a7 e).bel (bel_alloc w _), a8 := fun e => (h.a8 e).bel (bel_alloc w _)
    n6 := fun e => by cases e
    n7 := h.n7, n8 := h.n8
    d67 := fun _ _ => (ne_new h.old8 (Nat.le_refl _)).symm, d68 := fun _ _ => (ne_new h.old9 (Nat.le_refl _)).symm, d78 := h.d78 }
theorem St.alloc8 (h : St w1 t u v T U V b0 b1 b2 b3 b4 b5 b6 b7 b8 s7 s8 s9 s20 s21 s22 s23 s24 s25 w) : St w1 t u v T U V b0 b1 b2 b3 b4 b5 b6 true b8 s7 (ptr w.heap.size) s9 s20 s21 s22 s23 s24 s25 (w.alloc (.cells #[.slice none 0 0, .int .i64 0] 29)) :=
  { cur := h.cur.then (bel_alloc w _), l0 := h.l0, l2 := h.l2, l4 := h.l4
    c1 := fun e => ⟨(h.c1 e).1, (h.c1 e).2.w8 _⟩
    c3 := fun e => ⟨(h.c3 e).1, (h.c3 e).2.1, (h.c3 e).2.2.w8 _⟩
    c5 := fun e => ⟨(h.c5 e).1, (h.c5 e).2.1, (h.c5 e).2.2.w8 _⟩
    a6 := fun e => (h.a6 e).bel (bel_alloc w _), a7 := fun _ => BoxAt.new _ w (Below.size h.cur), a8 := fun e => (h.a8 e).bel (bel_alloc w _)
    n6 := h.n6
    n7 := fun e => by cases e
    n8 := h.n8
    d67 := fun _ _ => ne_new h.old7 (Nat.le_refl _), d68 := h.d68, d78 := fun _ _ => (ne_new h.old9 (Nat.le_refl _)).symm }
theorem St.alloc9 (h : St w1 t u v T U V b0 b1 b2 b3 b4 b5 b6 b7 b8 s7 s8 s9 s20 s21 s22 s23 s24 s25 w) : St w1 t u v T U V b0 b1 b2 b3 b4 b5 b6 b7 true s7 s8 (ptr w.heap.size) s20 s21 s22 s23 s24 s25 (w.alloc (.cells #[.slice none 0 0, .int .i64 0] 29)) :=
  { cur := h.cur.then (bel_alloc w _), l0 := h.l0, l2 := h.l2, l4 := h.l4
    c1 := fun e => ⟨(h.c1 e).1, (h.c1 e).2.w9 _⟩
    c3 := fun e => ⟨(h.c3 e).1, (h.c3 e).2.1, (h.c3 e).2.2.w9 _⟩
    c5 := fun e => ⟨(h.c5 e).1, (h.c5 e).2.1, (h.c5 e).2.2.w9 _⟩
    a6 := fun e => (h.a6 e).bel (bel_alloc w _), a7 := fun e => (h.a7 e).bel (bel_alloc w _), a8 := fun _ => BoxAt.new _ w (Below.size h.cur)
    n6 := h.n6, n7 := h.n7
    n8 := fun e => by cases e
    d67 := h.d67, d68 := fun _ _ => ne_new h.old7 (Nat.le_refl _), d78 := fun _ _ => ne_new h.old8 (Nat.le_refl _) }

theorem St.load0 (h : St w1 t u v T U V b0 b1 b2 b3 b4 b5 b6 b7 b8 s7 s8 s9 s20 s21 s22 s23 s24 s25 w) : St w1 t u v T U V true b1 b2 b3 b4 b5 b6 b7 b8 s7 s8 s9 T s21 s22 s23 s24 s25 w :=
  { cur := h.cur, l0 := fun _ => rfl, l2 := h.l2, l4 := h.l4, c1 := fun e => ⟨rfl, (h.c1 e).2⟩, c3 := h.c3, c5 := h.c5
    a6 := h.a6, a7 := h.a7, a8 := h.a8, n6 := h.n6, n7 := h.n7, n8 := h.n8, d67 := h.d67, d68 := h.d68, d78 := h.d78 }
theorem St.load2 (h : St w1 t u v T U V b0 b1 b2 b3 b4 b5 b6 b7 b8 s7 s8 s9 s20 s21 s22 s23 s24 s25 w) : St w1 t u v T U V b0 b1 true b3 b4 b5 b6 b7 b8 s7 s8 s9 s20 s21 U s23 s24 s25 w :=
  { cur := h.cur, l0 := h.l0, l2 := fun _ => rfl, l4 := h.l4, c1 := h.c1, c3 := fun e => ⟨rfl, (h.c3 e).2⟩, c5 := h.c5
    a6 := h.a6, a7 := h.a7, a8 := h.a8, n6 := h.n6, n7 := h.n7, n8 := h.n8, d67 := h.d67, d68 := h.d68, d78 := h.d78 }
theorem St.load4 (h : St w1 t u v T U V b0 b1 b2 b3 b4 b5 b6 b7 b8 s7 s8 s9 s20 s21 s22 s23 s24 s25 w) : St w1 t u v T U V b0 b1 b2 b3 true b5 b6 b7 b8 s7 s8 s9 s20 s21 s22 s23 V s25 w :=
  { cur := h.cur, l0 := h.l0, l2 := h.l2, l4 := fun _ => rfl, c1 := h.c1, c3 := h.c3, c5 := fun e => ⟨rfl, (h.c5 e).2⟩
    a6 := h.a6, a7 := h.a7, a8 := h.a8, n6 := h.n6, n7 := h.n7, n8 := h.n8, d67 := h.d67, d68 := h.d68, d78 := h.d78 }
theorem St.call1 (h : St w1 t u v T U V b0 b1 b2 b3 b4 b5 b6 b7 b8 s7 s8 s9 s20 s21 s22 s23 s24 s25 w) (e0 : b0 = true) (hb : Below w.heap.size w w') {x : Value} (hx : Holds w' (fun b => w.heap.size ≤ b) t.args x) : St w1 t u v T U V b0 true b2 b3 b4 b5 b6 b7 b8 s7 s8 s9 s20 (tv x t.base) s22 s23 s24 s25 w' :=
  let h' := h.bel hb
  { cur := h'.cur, l0 := h'.l0, l2 := h'.l2, l4 := h'.l4, c1 := fun _ => ⟨e0, h.fresh hx⟩, c3 := fun e => ⟨(h'.c3 e).1, rfl, (h'.c3 e).2.2⟩, c5 := h'.c5
    a6 := h'.a6, a7 := h'.a7, a8 := h'.a8, n6 := h'.n6, n7 := h'.n7, n8 := h'.n8, d67 := h'.d67, d68 := h'.d68, d78 := h'.d78 }
theorem St.call3 (h : St w1 t u v T U V b0 b1 b2 b3 b4 b5 b6 b7 b8 s7 s8 s9 s20 s21 s22 s23 s24 s25 w) (e2 : b2 = true) (e1 : b1 = true) (hb : Below w.heap.size w w') {x : Value} (hx : Holds w' (fun b => w.heap.size ≤ b) u.args x) : St w1 t u v T U V b0 b1 b2 true b4 b5 b6 b7 b8 s7 s8 s9 s20 s21 s22 (tv x u.base) s24 s25 w' :=
  let h' := h.bel hb
  { cur := h'.cur, l0 := h'.l0, l2 := h'.l2, l4 := h'.l4, c1 := h'.c1, c3 := fun _ => ⟨e2, e1, h.fresh hx⟩, c5 := fun e => ⟨(h'.c5 e).1, rfl, (h'.c5 e).2.2⟩
    a6 := h'.a6, a7 := h'.a7, a8 := h'.a8, n6 := h'.n6, n7 := h'.n7, n8 := h'.n8, d67 := h'.d67, d68 := h'.d68, d78 := h'.d78 }
theorem St.call5 (h : St w1 t u v T U V b0 b1 b2 b3 b4 b5 b6 b7 b8 s7 s8 s9 s20 s21 s22 s23 s24 s25 w) (e4 : b4 = true) (e3 : b3 = true) (hb : Below w.heap.size w w') {x : Value} (hx : Holds w' (fun b => w.heap.size ≤ b) v.args x) : St w1 t u v T U V b0 b1 b2 b3 b4 true b6 b7 b8 s7 s8 s9 s20 s21 s22 s23 s24 (tv x v.base) w' :=
  let h' := h.bel hb
  { cur := h'.cur, l0 := h'.l0, l2 := h'.l2, l4 := h'.l4, c1 := h'.c1, c3 := h'.c3, c5 := fun _ => ⟨e4, e3, h.fresh hx⟩
    a6 := h'.a6, a7 := h'.a7, a8 := h'.a8, n6 := h'.n6, n7 := h'.n7, n8 := h'.n8, d67 := h'.d67, d68 := h'.d68, d78 := h'.d78 }

end Go.Proofs.Ythcncdihgghbjaa
