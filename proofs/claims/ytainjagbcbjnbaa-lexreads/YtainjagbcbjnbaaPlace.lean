/-
  The contracts of a reader's Place and Fail, of both sides; of a nil reader's Peek, Next, Place, Fail.
-/
import Derived.Test.YtainjagbcbjnbaaRead
namespace Go.Proofs.Ytainjagbcbjnbaa
open Go Go.RowKit Go.Shelf Go.Sort Plain Lex

theorem field46_2 (a : Int) (b : ByteArray) (c : Int) (w : World) : (Instr.field 46 (.agg #[.int .i64 a, .string b, .int .i64 c]) 2).run Try.prog w = .ok (.int .i64 c) w := by kernel_rfl
theorem field46_1 (a : Int) (b : ByteArray) (c : Int) (w : World) : (Instr.field 46 (.agg #[.int .i64 a, .string b, .int .i64 c]) 1).run Try.prog w = .ok (.string b) w := by kernel_rfl
theorem field59_2 (a : Int) (b : ByteArray) (c : Int) (w : World) : (Instr.field 59 (.agg #[.int .i64 a, .string b, .int .i64 c]) 2).run Try.prog w = .ok (.int .i64 c) w := by kernel_rfl
theorem field59_1 (a : Int) (b : ByteArray) (c : Int) (w : World) : (Instr.field 59 (.agg #[.int .i64 a, .string b, .int .i64 c]) 1).run Try.prog w = .ok (.string b) w := by kernel_rfl

/-- The text's cell stands in the world. -/
abbrev At1 (R : Nat) (x : Value) (v : World) : Prop := R < v.heap.size ∧ v.cell? ⟨R, 1, none⟩ = some x
theorem At1.below {v v' : World} {R : Nat} {x : Value} (h : At1 R x v) (hb : Below v.heap.size v v') : At1 R x v' := ⟨Nat.lt_of_lt_of_le h.1 hb.size, (hb.cell (p := ⟨R, 1, none⟩) h.1).trans h.2⟩
/-- A new box of two numbers, behind a call. -/
theorem boxed {v w' : World} {M : Nat} {x y : Value} {t : TypeId} (hM : v.heap.size = M) (hb : Below (v.alloc (.cells #[x, y] t)).heap.size (v.alloc (.cells #[x, y] t)) w') : Blk w' M t #[x, y] :=
  (Blk.new' v M t _ hM).below hb (by simp [hM])
theorem boxedD {v w' : World} {M : Nat} {x y : Value} {t : TypeId} (hM : v.heap.size = M) (hb : Below (v.alloc (.cells #[x, y] t)).drew.heap.size (v.alloc (.cells #[x, y] t)).drew w') : Blk w' M t #[x, y] :=
  (Blk.new' v M t _ hM).drew.below hb (by show M < (v.alloc _).heap.size; simp [hM])
theorem At1.drew {v : World} {R : Nat} {x : Value} (h : At1 R x v) : At1 R x v.drew := h
theorem lt_of_b' {v w' : World} {M0 M R : Nat} (hb : Below v.drew.heap.size v.drew w') (h0 : v.drew.heap.size = M0) (hM : w'.heap.size = M) (h : R < M0) : R < M := by
  have := hb.size; omega
theorem lt_of_b {v w' : World} {M0 M R : Nat} (hb : Below v.heap.size v w') (h0 : v.heap.size = M0) (hM : w'.heap.size = M) (h : R < M0) : R < M := by
  have := hb.size; omega
theorem At1.set {v : World} {R B : Nat} {x y z : Value} (h : At1 R x v) (hne : R ≠ B) : At1 R x ((v.setCell ⟨B, 0, none⟩ y).setCell ⟨B, 1, none⟩ z) := by
  have e : ∀ (u : World) (i : Nat) (t : Value), At1 R x u → At1 R x (u.setCell ⟨B, i, none⟩ t) := fun u i t hu =>
    ⟨by simpa [World.setCell] using hu.1, (World.cell?_of_block (w := u) (Below.heap_setCell u ⟨B, i, none⟩ t R hne)).trans hu.2⟩
  exact e _ _ _ (e _ _ _ h)
theorem At1.alloc {v : World} {R : Nat} {x : Value} (h : At1 R x v) (o : Obj) : At1 R x (v.alloc o) := h.below ((Below.refl _ _).alloc (Nat.le_refl _) o)

set_option maxRecDepth 100000 in
set_option maxHeartbeats 1600000 in
theorem Place_calls (R base : Nat) (v : Value) (ts : List Tok) (s : ByteArray) (p : Nat) (w : World) (hR : Rd w 90 46 R base v ts s p) :
    Calls Try.prog 29 #[.pointer (some ⟨R, 0, none⟩)] w fun e w' => e = .returned (.agg #[.int .i64 ((markAt s (pk ts s p 0).pos).1 : Int), .int .i64 ((markAt s (pk ts s p 0).pos).2 : Int)]) ∧ Below w.heap.size w w' := by
  obtain ⟨N, hN⟩ : ∃ N, w.heap.size = N := ⟨_, rfl⟩
  have HN : Hid (w.heap.size = N) := hN
  have hRN : R < N := by rw [← hN]; exact hR.blk.lt
  obtain ⟨hx1, hx2⟩ := hR.pk 0
  have hshort := hR.short
  have cL := fun w h => look_calls R base v ts s p 0 w h
  generalize pk ts s p 0 = t at *
  have cO : ∀ w, Calls Try.prog 46 #[.string s, .int .i64 t.pos] w fun e w' => e = .returned (.tuple #[.agg #[.int .i64 ((markAt s t.pos).1 : Int), .int .i64 ((markAt s t.pos).2 : Int)], .int .i64 0]) ∧ Below w.heap.size w w' := Of_calls s (by omega) t.pos hx2
  generalize markAt s t.pos = m at *
  obtain ⟨L, C⟩ := m
  simp only at cO ⊢
  have CL : Hid _ := cL
  have CO : Hid _ := cO
  clear cL cO
  go_enter Try.func29, Try.ntmps29
  go_wp2_with fail
  generalize hW : w.alloc (.cells #[.int .i64 0, .int .i64 0] 25) = W
  have b0 : Blk W N 25 #[.int .i64 0, .int .i64 0] := by rw [← hW]; exact Blk.new' w N 25 _ hN
  have hb : Below N w W := by rw [← hW]; exact (Below.refl N w).alloc (by omega) _
  have hRW : Rd W 90 46 R base v ts s p := by rw [← hW]; exact hR.alloc _
  clear hW hN hR
  have hRD := hRW.drew
  have q1 : W.cell? ⟨R, 1, none⟩ = some (.string s) := hRW.blk.cell 1
  have hRl : R < W.heap.size := hRW.blk.lt
  have hNW : N < W.heap.size := b0.lt
  have fd := field46_2 t.kind t.text t.pos
  have hA : At1 R (.string s) W.drew := ⟨hRl, q1⟩
  have hAW : At1 R (.string s) W := ⟨hRl, q1⟩
  obtain ⟨M0, hM0⟩ : ∃ M0, W.heap.size = M0 := ⟨_, rfl⟩
  have hM0d : W.drew.heap.size = M0 := hM0
  have hRM0 : R < M0 := by rw [← hM0]; exact hRl
  have hNM0 : N < M0 := by rw [← hM0]; exact hNW
  go_region_held3 (fun v => R < v.heap.size ∧ v.cell? ⟨R, 1, none⟩ = some (.string s))
    (first | with_reducible exact hA | with_reducible exact At1.below (by assumption) hb2 | with_reducible exact At1.below (by assumption) hb1 | with_reducible exact At1.alloc (At1.below (At1.below hA hb1) hb2) _ | with_reducible exact At1.alloc (At1.below hA hb1) _ | with_reducible exact At1.drew (At1.alloc hAW _) | with_reducible exact At1.set (by assumption) (Nat.ne_of_lt hRM) | with_reducible exact At1.set (by assumption) (Nat.ne_of_lt hRM0))
    (first
      | (go_at_call 44; (first | refine (CL.out _ hRD).mono ?_ | refine (CL.out _ (hRW.alloc _).drew).mono ?_); rintro e w1 ⟨rfl, hb1⟩; unfold agg; obtain ⟨M, hM⟩ : ∃ M, w1.heap.size = M := ⟨_, rfl⟩; (first | with_reducible have bx := boxedD hM0 hb1 | skip); (first | with_reducible have hRM := lt_of_b' hb1 hM0d hM hRM0 | skip))
      | (go_at_call 46; refine (CO.out _).mono ?_; rintro e w2 ⟨rfl, hb2⟩; obtain ⟨K, hK⟩ : ∃ K, w2.heap.size = K := ⟨_, rfl⟩; (first | with_reducible have by2 := boxed hM hb2 | with_reducible have by2 := bx.below hb2 bx.lt | skip); (first | have yc0 := by2.cell 0 | skip); (first | have yc1 := by2.cell 1 | skip); (first | have yf := fun j => by2.frozen j | skip)))
  · have hN1 : N < w1.heap.size := Nat.lt_of_lt_of_le hNW hb1.size
    have hbV : Below N w (w2.alloc (.cells #[.int .i64 L, .int .i64 C] 25)) := (((hb.drew).trans (hb1.mono (Nat.le_of_lt hNW))).trans (hb2.mono (Nat.le_of_lt hN1))).alloc (Nat.le_trans (Nat.le_of_lt hN1) hb2.size) _
    have c0 : Blk (w2.alloc (.cells #[.int .i64 L, .int .i64 C] 25)) N 25 #[.int .i64 0, .int .i64 0] := ((b0.drew.below hb1 hNW).below hb2 hN1).alloc _
    have c1 : Blk (w2.alloc (.cells #[.int .i64 L, .int .i64 C] 25)) K 25 #[.int .i64 L, .int .i64 C] := Blk.new' w2 K 25 _ hK
    have hne : N ≠ K := by have := hb2.size; omega
    generalize w2.alloc (.cells #[.int .i64 L, .int .i64 C] 25) = V at *
    have hNNs : N ≤ V.heap.size := Nat.le_of_lt c0.lt
    have e0 : V.cell? ⟨N, 0, none⟩ = some (.int .i64 0) := c0.cell 0
    have e1 : V.cell? ⟨N, 1, none⟩ = some (.int .i64 0) := c0.cell 1
    have m0 : V.cell? ⟨K, 0, none⟩ = some (.int .i64 L) := c1.cell 0
    have m1 : V.cell? ⟨K, 1, none⟩ = some (.int .i64 C) := c1.cell 1
    have fN : ∀ j, V.frozen? ⟨N, j, none⟩ = false := fun j => c0.frozen j
    go_wp2
    have g := (c0.set 0 (.int .i64 L)).set 1 (.int .i64 C)
    have hbl := bset (i := 1) (bset (i := 0) hbV (Nat.le_refl N) (.int .i64 L)) (Nat.le_refl N) (.int .i64 C)
    generalize (V.setCell ⟨N, 0, none⟩ (.int .i64 L)).setCell ⟨N, 1, none⟩ (.int .i64 C) = W4 at *
    have x0 : W4.cell? ⟨N, 0, none⟩ = some (.int .i64 L) := g.cell 0
    have x1 : W4.cell? ⟨N, 1, none⟩ = some (.int .i64 C) := g.cell 1
    exact bodyPost_ret (v := .agg #[.int .i64 L, .int .i64 C]) (by simp [results, Try.results29, go_sem, x0, x1]) rfl ⟨rfl, by rw [HN.out]; exact hbl⟩
  · have hN1 : N < w1.heap.size := Nat.lt_of_lt_of_le hNW hb1.size
    have hNM : N < M := by rw [← hM]; exact hN1
    have hN2 : N < (w1.alloc (.cells #[.int .i64 0, .int .i64 0] 25)).heap.size := by simp; omega
    have hbV : Below N w ((w2.setCell ⟨M, 0, none⟩ (.int .i64 L)).setCell ⟨M, 1, none⟩ (.int .i64 C)) := bset (bset ((((hb.drew).trans (hb1.mono (Nat.le_of_lt hNW))).alloc (Nat.le_of_lt hN1) _).trans (hb2.mono (Nat.le_of_lt hN2))) (Nat.le_of_lt hNM) _) (Nat.le_of_lt hNM) _
    have c0 : Blk ((w2.setCell ⟨M, 0, none⟩ (.int .i64 L)).setCell ⟨M, 1, none⟩ (.int .i64 C)) N 25 #[.int .i64 0, .int .i64 0] := ((((b0.drew.below hb1 hNW).alloc _).below hb2 hN2).other (by omega) 0 _).other (by omega) 1 _
    have c1 : Blk ((w2.setCell ⟨M, 0, none⟩ (.int .i64 L)).setCell ⟨M, 1, none⟩ (.int .i64 C)) M 25 #[.int .i64 L, .int .i64 C] := (by2.set 0 _).set 1 _
    have hne : N ≠ M := by omega
    clear yc0 yc1 yf by2
    generalize (w2.setCell ⟨M, 0, none⟩ (.int .i64 L)).setCell ⟨M, 1, none⟩ (.int .i64 C) = V at *
    have hNNs : N ≤ V.heap.size := Nat.le_of_lt c0.lt
    have e0 : V.cell? ⟨N, 0, none⟩ = some (.int .i64 0) := c0.cell 0
    have e1 : V.cell? ⟨N, 1, none⟩ = some (.int .i64 0) := c0.cell 1
    have m0 : V.cell? ⟨M, 0, none⟩ = some (.int .i64 L) := c1.cell 0
    have m1 : V.cell? ⟨M, 1, none⟩ = some (.int .i64 C) := c1.cell 1
    have fN : ∀ j, V.frozen? ⟨N, j, none⟩ = false := fun j => c0.frozen j
    go_wp2
    have g := (c0.set 0 (.int .i64 L)).set 1 (.int .i64 C)
    have hbl := bset (i := 1) (bset (i := 0) hbV (Nat.le_refl N) (.int .i64 L)) (Nat.le_refl N) (.int .i64 C)
    generalize (V.setCell ⟨N, 0, none⟩ (.int .i64 L)).setCell ⟨N, 1, none⟩ (.int .i64 C) = W4 at *
    have x0 : W4.cell? ⟨N, 0, none⟩ = some (.int .i64 L) := g.cell 0
    have x1 : W4.cell? ⟨N, 1, none⟩ = some (.int .i64 C) := g.cell 1
    exact bodyPost_ret (v := .agg #[.int .i64 L, .int .i64 C]) (by simp [results, Try.results29, go_sem, x0, x1]) rfl ⟨rfl, by rw [HN.out]; exact hbl⟩
  · have hN0 : N < (W.alloc (.cells #[.int .i64 0, .int .i64 0] 25)).drew.heap.size := by show N < (W.alloc _).heap.size; simp; omega
    have hN1 : N < w1.heap.size := Nat.lt_of_lt_of_le hN0 hb1.size
    have hbV : Below N w ((w2.setCell ⟨M0, 0, none⟩ (.int .i64 L)).setCell ⟨M0, 1, none⟩ (.int .i64 C)) := bset (bset ((((hb.alloc (Nat.le_of_lt hNW) _).drew).trans (hb1.mono (Nat.le_of_lt hN0))).trans (hb2.mono (Nat.le_of_lt hN1))) (Nat.le_of_lt hNM0) _) (Nat.le_of_lt hNM0) _
    have c0 : Blk ((w2.setCell ⟨M0, 0, none⟩ (.int .i64 L)).setCell ⟨M0, 1, none⟩ (.int .i64 C)) N 25 #[.int .i64 0, .int .i64 0] := (((((b0.alloc _).drew).below hb1 hN0).below hb2 hN1).other (by omega) 0 _).other (by omega) 1 _
    have c1 : Blk ((w2.setCell ⟨M0, 0, none⟩ (.int .i64 L)).setCell ⟨M0, 1, none⟩ (.int .i64 C)) M0 25 #[.int .i64 L, .int .i64 C] := (by2.set 0 _).set 1 _
    have hne : N ≠ M0 := by omega
    clear yc0 yc1 yf by2 bx
    generalize (w2.setCell ⟨M0, 0, none⟩ (.int .i64 L)).setCell ⟨M0, 1, none⟩ (.int .i64 C) = V at *
    have hNNs : N ≤ V.heap.size := Nat.le_of_lt c0.lt
    have e0 : V.cell? ⟨N, 0, none⟩ = some (.int .i64 0) := c0.cell 0
    have e1 : V.cell? ⟨N, 1, none⟩ = some (.int .i64 0) := c0.cell 1
    have m0 : V.cell? ⟨M0, 0, none⟩ = some (.int .i64 L) := c1.cell 0
    have m1 : V.cell? ⟨M0, 1, none⟩ = some (.int .i64 C) := c1.cell 1
    have fN : ∀ j, V.frozen? ⟨N, j, none⟩ = false := fun j => c0.frozen j
    go_wp2
    have g := (c0.set 0 (.int .i64 L)).set 1 (.int .i64 C)
    have hbl := bset (i := 1) (bset (i := 0) hbV (Nat.le_refl N) (.int .i64 L)) (Nat.le_refl N) (.int .i64 C)
    generalize (V.setCell ⟨N, 0, none⟩ (.int .i64 L)).setCell ⟨N, 1, none⟩ (.int .i64 C) = W4 at *
    have x0 : W4.cell? ⟨N, 0, none⟩ = some (.int .i64 L) := g.cell 0
    have x1 : W4.cell? ⟨N, 1, none⟩ = some (.int .i64 C) := g.cell 1
    exact bodyPost_ret (v := .agg #[.int .i64 L, .int .i64 C]) (by simp [results, Try.results29, go_sem, x0, x1]) rfl ⟨rfl, by rw [HN.out]; exact hbl⟩

set_option maxRecDepth 100000 in
set_option maxHeartbeats 1600000 in
theorem refPlace_calls (R base : Nat) (v : Value) (ts : List Tok) (s : ByteArray) (p : Nat) (w : World) (hR : Rd w 55 59 R base v ts s p) :
    Calls Try.prog 27 #[.pointer (some ⟨R, 0, none⟩)] w fun e w' => e = .returned (.agg #[.int .i64 ((markAt s (pk ts s p 0).pos).1 : Int), .int .i64 ((markAt s (pk ts s p 0).pos).2 : Int)]) ∧ Below w.heap.size w w' := by
  obtain ⟨N, hN⟩ : ∃ N, w.heap.size = N := ⟨_, rfl⟩
  have HN : Hid (w.heap.size = N) := hN
  have hRN : R < N := by rw [← hN]; exact hR.blk.lt
  obtain ⟨hx1, hx2⟩ := hR.pk 0
  have hshort := hR.short
  have cL := fun w h => refPeek_calls R base v ts s p 0 w h
  generalize pk ts s p 0 = t at *
  have cO := refOf_calls s (by omega) t.pos hx2
  generalize markAt s t.pos = m at *
  obtain ⟨L, C⟩ := m
  simp only at cO ⊢
  have CL : Hid _ := cL
  have CO : Hid _ := cO
  have fd := field59_2 t.kind t.text t.pos
  have t1 : decide ((t.pos : Int) < 0) = false := by simp
  have t2 : decide ((s.size : Int) < (t.pos : Int)) = false := by simp; omega
  clear cL cO
  go_enter Try.func27, Try.ntmps27
  go_wp2_with fail
  generalize hW : w.alloc (.cells #[.int .i64 0, .int .i64 0] 31) = W
  have b0 : Blk W N 31 #[.int .i64 0, .int .i64 0] := by rw [← hW]; exact Blk.new' w N 31 _ hN
  have hb : Below N w W := by rw [← hW]; exact (Below.refl N w).alloc (by omega) _
  have hRW : Rd W 55 59 R base v ts s p := by rw [← hW]; exact hR.alloc _
  clear hW hN hR
  refine (CL.out _ hRW).mono ?_
  rintro e w1 ⟨rfl, hb1⟩
  have c0 := b0.below hb1 b0.lt
  have hbb : Below N w w1 := hb.trans (hb1.mono (Nat.le_of_lt b0.lt))
  have hR1 := hRW.below hb1
  have q1 : w1.cell? ⟨R, 1, none⟩ = some (.string s) := hR1.blk.cell 1
  clear hb hb1 b0 hRW
  unfold agg
  go_wp2_with (go_at_call 38; refine (CO.out _).mono ?_)
  rintro e w2 ⟨rfl, hb2⟩
  have d0 := c0.below hb2 c0.lt
  have hbl : Below N w w2 := hbb.trans (hb2.mono (Nat.le_of_lt c0.lt))
  have e0 : w2.cell? ⟨N, 0, none⟩ = some (.int .i64 0) := d0.cell 0
  have e1 : w2.cell? ⟨N, 1, none⟩ = some (.int .i64 0) := d0.cell 1
  have fN : ∀ j, w2.frozen? ⟨N, j, none⟩ = false := fun j => d0.frozen j
  go_wp2
  have g := (d0.set 0 (.int .i64 L)).set 1 (.int .i64 C)
  have hbl5 := bset (i := 1) (bset (i := 0) hbl (Nat.le_refl N) (.int .i64 L)) (Nat.le_refl N) (.int .i64 C)
  generalize (w2.setCell ⟨N, 0, none⟩ (.int .i64 L)).setCell ⟨N, 1, none⟩ (.int .i64 C) = W4 at *
  have x0 : W4.cell? ⟨N, 0, none⟩ = some (.int .i64 L) := g.cell 0
  have x1 : W4.cell? ⟨N, 1, none⟩ = some (.int .i64 C) := g.cell 1
  exact bodyPost_ret (v := .agg #[.int .i64 L, .int .i64 C]) (by simp [results, Try.results27, go_sem, x0, x1]) rfl ⟨rfl, by rw [HN.out]; exact hbl5⟩

end Go.Proofs.Ytainjagbcbjnbaa
