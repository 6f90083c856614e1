/-
  The contracts of a reader's Fail; of a nil reader's Peek, Next, Place and Fail.
-/
import Derived.Test.YtainjagbcbjnbaaPlace
namespace Go.Proofs.Ytainjagbcbjnbaa
open Go Go.RowKit Go.Shelf Go.Sort Plain Lex

set_option maxRecDepth 100000 in
set_option maxHeartbeats 1600000 in
theorem Fail_calls (R base : Nat) (v : Value) (ts : List Tok) (s : ByteArray) (p : Nat) (c : Int) (w : World) (hR : Rd w 90 46 R base v ts s p) :
    Calls Try.prog 26 #[.pointer (some ⟨R, 0, none⟩), .int .i64 c] w fun e w' => e = .returned (.agg #[.int .i64 c, .int .i64 ((markAt s (pk ts s p 0).pos).1 : Int), .int .i64 ((markAt s (pk ts s p 0).pos).2 : Int), .string (headB (pk ts s p 0).text)]) ∧ Below w.heap.size w w' := by
  obtain ⟨N, hN⟩ : ∃ N, w.heap.size = N := ⟨_, rfl⟩
  have HN : Hid (w.heap.size = N) := hN
  obtain ⟨hx1, hx2⟩ := hR.pk 0
  have cL := fun w h => look_calls R base v ts s p 0 w h
  have cP := fun w h => Place_calls R base v ts s p w h
  generalize pk ts s p 0 = t at *
  generalize markAt s t.pos = m at *
  obtain ⟨L, C⟩ := m
  simp only at cP ⊢
  have CL : Hid _ := cL
  have CP : Hid _ := cP
  have fd := field46_1 t.kind t.text t.pos
  clear cL cP
  go_enter Try.func26, Try.ntmps26
  go_wp2_with fail
  generalize hW : w.alloc (.cells #[.int .i64 0, .int .i64 0, .int .i64 0, .string ⟨#[]⟩] 27) = W
  have b0 : Blk W N 27 #[.int .i64 0, .int .i64 0, .int .i64 0, .string ⟨#[]⟩] := by rw [← hW]; exact Blk.new' w N 27 _ hN
  have hb : Below N w W := by rw [← hW]; exact (Below.refl N w).alloc (by omega) _
  have hRW : Rd W 90 46 R base v ts s p := by rw [← hW]; exact hR.alloc _
  clear hW hN hR
  refine (CP.out _ hRW).mono ?_
  rintro e w1 ⟨rfl, hb1⟩
  have c0 := b0.below hb1 b0.lt
  have hbb : Below N w w1 := hb.trans (hb1.mono (Nat.le_of_lt b0.lt))
  have hR1 := hRW.below hb1
  clear hb hb1 b0 hRW
  go_wp2_with fail
  refine (CL.out _ hR1).mono ?_
  rintro e w2 ⟨rfl, hb2⟩
  have d0 := c0.below hb2 c0.lt
  have hbl : Below N w w2 := hbb.trans (hb2.mono (Nat.le_of_lt c0.lt))
  clear hb2 c0 hbb hR1
  unfold agg
  go_wp2_with fail
  refine (head_calls t.text (by omega) _).mono ?_
  rintro e w3 ⟨rfl, hb3⟩
  have e0 := d0.below hb3 d0.lt
  have hb5 : Below N w w3 := hbl.trans (hb3.mono (Nat.le_of_lt d0.lt))
  clear hb3 d0 hbl
  have q0 : w3.cell? ⟨N, 0, none⟩ = some (.int .i64 0) := e0.cell 0
  have q1 : w3.cell? ⟨N, 1, none⟩ = some (.int .i64 0) := e0.cell 1
  have q2 : w3.cell? ⟨N, 2, none⟩ = some (.int .i64 0) := e0.cell 2
  have q3 : w3.cell? ⟨N, 3, none⟩ = some (.string ⟨#[]⟩) := e0.cell 3
  have fz : ∀ j, w3.frozen? ⟨N, j, none⟩ = false := fun j => e0.frozen j
  obtain ⟨wd, hwd⟩ : ∃ wd, headB t.text = wd := ⟨_, rfl⟩
  rw [hwd]
  have HWD : Hid (headB t.text = wd) := hwd
  clear hwd
  go_wp2
  have g := (((e0.set 0 (.int .i64 c)).set 1 (.int .i64 L)).set 2 (.int .i64 C)).set 3 (.string wd)
  have hbl5 := bset (i := 3) (bset (i := 2) (bset (i := 1) (bset (i := 0) hb5 (Nat.le_refl N) (.int .i64 c)) (Nat.le_refl N) (.int .i64 L)) (Nat.le_refl N) (.int .i64 C)) (Nat.le_refl N) (.string wd)
  generalize (((w3.setCell ⟨N, 0, none⟩ (.int .i64 c)).setCell ⟨N, 1, none⟩ (.int .i64 L)).setCell ⟨N, 2, none⟩ (.int .i64 C)).setCell ⟨N, 3, none⟩ (.string wd) = W4 at *
  have x0 : W4.cell? ⟨N, 0, none⟩ = some (.int .i64 c) := g.cell 0
  have x1 : W4.cell? ⟨N, 1, none⟩ = some (.int .i64 L) := g.cell 1
  have x2 : W4.cell? ⟨N, 2, none⟩ = some (.int .i64 C) := g.cell 2
  have x3 : W4.cell? ⟨N, 3, none⟩ = some (.string wd) := g.cell 3
  exact bodyPost_ret (v := .agg #[.int .i64 c, .int .i64 L, .int .i64 C, .string wd]) (by simp [results, Try.results26, go_sem, x0, x1, x2, x3]) rfl ⟨by rw [HWD.out], by rw [HN.out]; exact hbl5⟩

/-- what a call that ends in three stores into its own box leaves -/
theorem box3 {W w : World} {N : Nat} {t : TypeId} {x y z x' y' z' : Value} (h : Blk W N t #[x, y, z]) (hb : Below N w W) :
    Blk (((W.setCell ⟨N, 0, none⟩ x').setCell ⟨N, 1, none⟩ y').setCell ⟨N, 2, none⟩ z') N t #[x', y', z'] ∧ Below N w (((W.setCell ⟨N, 0, none⟩ x').setCell ⟨N, 1, none⟩ y').setCell ⟨N, 2, none⟩ z') :=
  ⟨((h.set 0 _).set 1 _).set 2 _, bset (bset (bset hb (Nat.le_refl N) _) (Nat.le_refl N) _) (Nat.le_refl N) _⟩

set_option maxRecDepth 100000 in
set_option maxHeartbeats 800000 in
theorem Peek_nil (n : Int) (w : World) : Calls Try.prog 22 #[.pointer none, .int .i64 n] w fun e w' => e = .returned (.agg #[.int .i64 4, .string ⟨#[]⟩, .int .i64 0]) ∧ Below w.heap.size w w' := by
  obtain ⟨N, hN⟩ : ∃ N, w.heap.size = N := ⟨_, rfl⟩
  have HN : Hid (w.heap.size = N) := hN
  go_enter Try.func22, Try.ntmps22
  go_wp2_with fail
  generalize hW : w.alloc (.cells #[.int .i64 0, .string ⟨#[]⟩, .int .i64 0] 46) = W
  have b0 : Blk W N 46 #[.int .i64 0, .string ⟨#[]⟩, .int .i64 0] := by rw [← hW]; exact Blk.new' w N 46 _ hN
  have hb : Below N w W := by rw [← hW]; exact (Below.refl N w).alloc (by omega) _
  clear hW hN
  refine (look_nil n _).mono ?_
  rintro e w1 ⟨rfl, hb1⟩
  have c0 := b0.below hb1 b0.lt
  have hbb : Below N w w1 := hb.trans (hb1.mono (Nat.le_of_lt b0.lt))
  go_wp2_with fail
  refine (fresh_calls 4 ⟨#[]⟩ 0 (by decide) _).mono ?_
  rintro e w2 ⟨rfl, hb2⟩
  have d0 := c0.below hb2 c0.lt
  have hbl : Below N w w2 := hbb.trans (hb2.mono (Nat.le_of_lt c0.lt))
  have q0 : w2.cell? ⟨N, 0, none⟩ = some (.int .i64 0) := d0.cell 0
  have q1 : w2.cell? ⟨N, 1, none⟩ = some (.string ⟨#[]⟩) := d0.cell 1
  have q2 : w2.cell? ⟨N, 2, none⟩ = some (.int .i64 0) := d0.cell 2
  have fz : ∀ j, w2.frozen? ⟨N, j, none⟩ = false := fun j => d0.frozen j
  go_wp2
  obtain ⟨g, hbl5⟩ := box3 (x' := .int .i64 4) (y' := .string ⟨#[]⟩) (z' := .int .i64 0) d0 hbl
  generalize ((w2.setCell ⟨N, 0, none⟩ (.int .i64 4)).setCell ⟨N, 1, none⟩ (.string ⟨#[]⟩)).setCell ⟨N, 2, none⟩ (.int .i64 0) = W4 at *
  have x0 : W4.cell? ⟨N, 0, none⟩ = some (.int .i64 4) := g.cell 0
  have x1 : W4.cell? ⟨N, 1, none⟩ = some (.string ⟨#[]⟩) := g.cell 1
  have x2 : W4.cell? ⟨N, 2, none⟩ = some (.int .i64 0) := g.cell 2
  exact bodyPost_ret (v := .agg #[.int .i64 4, .string ⟨#[]⟩, .int .i64 0]) (by simp [results, Try.results22, go_sem, x0, x1, x2]) rfl ⟨rfl, by rw [HN.out]; exact hbl5⟩

set_option maxRecDepth 100000 in
set_option maxHeartbeats 800000 in
theorem Next_nil (w : World) : Calls Try.prog 20 #[.pointer none] w fun e w' => e = .returned (.agg #[.int .i64 4, .string ⟨#[]⟩, .int .i64 0]) ∧ Below w.heap.size w w' := by
  obtain ⟨N, hN⟩ : ∃ N, w.heap.size = N := ⟨_, rfl⟩
  have HN : Hid (w.heap.size = N) := hN
  go_enter Try.func20, Try.ntmps20
  go_wp2_with fail
  generalize hW : w.alloc (.cells #[.int .i64 0, .string ⟨#[]⟩, .int .i64 0] 46) = W
  have b0 : Blk W N 46 #[.int .i64 0, .string ⟨#[]⟩, .int .i64 0] := by rw [← hW]; exact Blk.new' w N 46 _ hN
  have hb : Below N w W := by rw [← hW]; exact (Below.refl N w).alloc (by omega) _
  clear hW hN
  refine (Peek_nil 0 _).mono ?_
  rintro e w1 ⟨rfl, hb1⟩
  have c0 := b0.below hb1 b0.lt
  have hbb : Below N w w1 := hb.trans (hb1.mono (Nat.le_of_lt b0.lt))
  obtain ⟨M, hM⟩ : ∃ M, w1.heap.size = M := ⟨_, rfl⟩
  have hNM : N < M := by rw [← hM]; exact c0.lt
  have e0 : ∀ o, (w1.alloc o).cell? ⟨N, 0, none⟩ = some (.int .i64 0) := fun o => (c0.alloc o).cell 0
  have e1 : ∀ o, (w1.alloc o).cell? ⟨N, 1, none⟩ = some (.string ⟨#[]⟩) := fun o => (c0.alloc o).cell 1
  have e2 : ∀ o, (w1.alloc o).cell? ⟨N, 2, none⟩ = some (.int .i64 0) := fun o => (c0.alloc o).cell 2
  have fN : ∀ o j, (w1.alloc o).frozen? ⟨N, j, none⟩ = false := fun o j => (c0.alloc o).frozen j
  go_wp2_with fail
  go_quiet (fail)
  go_wp2
  obtain ⟨o, ho⟩ : ∃ o, o = Obj.cells #[.int .i64 4, .string ⟨#[]⟩, .int .i64 0] 46 := ⟨_, rfl⟩
  rw [← ho]
  have cm : Blk ((w1.alloc o).drewN nq) N 46 #[.int .i64 0, .string ⟨#[]⟩, .int .i64 0] := c0.alloc o
  have hbm : Below N w ((w1.alloc o).drewN nq) := by
    have := hbb.alloc (Nat.le_of_lt c0.lt) o
    exact ⟨this.os, this.tape, this.output, this.size, this.block⟩
  generalize (w1.alloc o).drewN nq = W3 at *
  obtain ⟨g, hbl5⟩ := box3 (x' := .int .i64 4) (y' := .string ⟨#[]⟩) (z' := .int .i64 0) cm hbm
  generalize ((W3.setCell ⟨N, 0, none⟩ (.int .i64 4)).setCell ⟨N, 1, none⟩ (.string ⟨#[]⟩)).setCell ⟨N, 2, none⟩ (.int .i64 0) = W4 at *
  have x0 : W4.cell? ⟨N, 0, none⟩ = some (.int .i64 4) := g.cell 0
  have x1 : W4.cell? ⟨N, 1, none⟩ = some (.string ⟨#[]⟩) := g.cell 1
  have x2 : W4.cell? ⟨N, 2, none⟩ = some (.int .i64 0) := g.cell 2
  exact bodyPost_ret (v := .agg #[.int .i64 4, .string ⟨#[]⟩, .int .i64 0]) (by simp [results, Try.results20, go_sem, x0, x1, x2]) rfl ⟨rfl, by rw [HN.out]; exact hbl5⟩

set_option maxRecDepth 100000 in
set_option maxHeartbeats 800000 in
theorem Place_nil (w : World) : Calls Try.prog 29 #[.pointer none] w fun e w' => e = .returned (.agg #[.int .i64 1, .int .i64 1]) ∧ Below w.heap.size w w' := by
  obtain ⟨N, hN⟩ : ∃ N, w.heap.size = N := ⟨_, rfl⟩
  have HN : Hid (w.heap.size = N) := hN
  go_enter Try.func29, Try.ntmps29
  go_wp2_with fail
  generalize hW : w.alloc (.cells #[.int .i64 0, .int .i64 0] 25) = W
  have b0 : Blk W N 25 #[.int .i64 0, .int .i64 0] := by rw [← hW]; exact Blk.new' w N 25 _ hN
  have hb : Below N w W := by rw [← hW]; exact (Below.refl N w).alloc (by omega) _
  clear hW hN
  refine (start_calls _).mono ?_
  rintro e w1 ⟨rfl, hb1⟩
  have c0 := b0.below hb1 b0.lt
  have hbb : Below N w w1 := hb.trans (hb1.mono (Nat.le_of_lt b0.lt))
  have e0 : w1.cell? ⟨N, 0, none⟩ = some (.int .i64 0) := c0.cell 0
  have e1 : w1.cell? ⟨N, 1, none⟩ = some (.int .i64 0) := c0.cell 1
  have fN : ∀ j, w1.frozen? ⟨N, j, none⟩ = false := fun j => c0.frozen j
  go_wp2
  have g := (c0.set 0 (.int .i64 1)).set 1 (.int .i64 1)
  have hbl := bset (i := 1) (bset (i := 0) hbb (Nat.le_refl N) (.int .i64 1)) (Nat.le_refl N) (.int .i64 1)
  generalize (w1.setCell ⟨N, 0, none⟩ (.int .i64 1)).setCell ⟨N, 1, none⟩ (.int .i64 1) = W4 at *
  have x0 : W4.cell? ⟨N, 0, none⟩ = some (.int .i64 1) := g.cell 0
  have x1 : W4.cell? ⟨N, 1, none⟩ = some (.int .i64 1) := g.cell 1
  exact bodyPost_ret (v := .agg #[.int .i64 1, .int .i64 1]) (by simp [results, Try.results29, go_sem, x0, x1]) rfl ⟨rfl, by rw [HN.out]; exact hbl⟩

set_option maxRecDepth 100000 in
set_option maxHeartbeats 800000 in
theorem Fail_nil (c : Int) (w : World) : Calls Try.prog 26 #[.pointer none, .int .i64 c] w fun e w' => e = .returned (.agg #[.int .i64 c, .int .i64 1, .int .i64 1, .string ⟨#[]⟩]) ∧ Below w.heap.size w w' := by
  obtain ⟨N, hN⟩ : ∃ N, w.heap.size = N := ⟨_, rfl⟩
  have HN : Hid (w.heap.size = N) := hN
  have fd := field46_1 4 ⟨#[]⟩ 0
  have CH : Hid (∀ w : World, Calls Try.prog 45 #[.string ⟨#[]⟩] w fun e w' => e = .returned (.string ⟨#[]⟩) ∧ Below w.heap.size w w') := fun w => head_calls ⟨#[]⟩ (by decide) w
  go_enter Try.func26, Try.ntmps26
  go_wp2_with fail
  generalize hW : w.alloc (.cells #[.int .i64 0, .int .i64 0, .int .i64 0, .string ⟨#[]⟩] 27) = W
  have b0 : Blk W N 27 #[.int .i64 0, .int .i64 0, .int .i64 0, .string ⟨#[]⟩] := by rw [← hW]; exact Blk.new' w N 27 _ hN
  have hb : Below N w W := by rw [← hW]; exact (Below.refl N w).alloc (by omega) _
  clear hW hN
  refine (Place_nil _).mono ?_
  rintro e w1 ⟨rfl, hb1⟩
  have c0 := b0.below hb1 b0.lt
  have hbb : Below N w w1 := hb.trans (hb1.mono (Nat.le_of_lt b0.lt))
  clear hb hb1 b0
  go_wp2_with fail
  refine (look_nil 0 _).mono ?_
  rintro e w2 ⟨rfl, hb2⟩
  have d0 := c0.below hb2 c0.lt
  have hbl : Below N w w2 := hbb.trans (hb2.mono (Nat.le_of_lt c0.lt))
  clear hb2 c0 hbb
  go_wp2_with fail
  refine (CH.out _).mono ?_
  rintro e w3 ⟨rfl, hb3⟩
  have e0 := d0.below hb3 d0.lt
  have hb5 : Below N w w3 := hbl.trans (hb3.mono (Nat.le_of_lt d0.lt))
  clear hb3 d0 hbl
  have q0 : w3.cell? ⟨N, 0, none⟩ = some (.int .i64 0) := e0.cell 0
  have q1 : w3.cell? ⟨N, 1, none⟩ = some (.int .i64 0) := e0.cell 1
  have q2 : w3.cell? ⟨N, 2, none⟩ = some (.int .i64 0) := e0.cell 2
  have q3 : w3.cell? ⟨N, 3, none⟩ = some (.string ⟨#[]⟩) := e0.cell 3
  have fz : ∀ j, w3.frozen? ⟨N, j, none⟩ = false := fun j => e0.frozen j
  go_wp2
  have g := (((e0.set 0 (.int .i64 c)).set 1 (.int .i64 1)).set 2 (.int .i64 1)).set 3 (.string ⟨#[]⟩)
  have hbl5 := bset (i := 3) (bset (i := 2) (bset (i := 1) (bset (i := 0) hb5 (Nat.le_refl N) (.int .i64 c)) (Nat.le_refl N) (.int .i64 1)) (Nat.le_refl N) (.int .i64 1)) (Nat.le_refl N) (.string ⟨#[]⟩)
  generalize (((w3.setCell ⟨N, 0, none⟩ (.int .i64 c)).setCell ⟨N, 1, none⟩ (.int .i64 1)).setCell ⟨N, 2, none⟩ (.int .i64 1)).setCell ⟨N, 3, none⟩ (.string ⟨#[]⟩) = W4 at *
  have x0 : W4.cell? ⟨N, 0, none⟩ = some (.int .i64 c) := g.cell 0
  have x1 : W4.cell? ⟨N, 1, none⟩ = some (.int .i64 1) := g.cell 1
  have x2 : W4.cell? ⟨N, 2, none⟩ = some (.int .i64 1) := g.cell 2
  have x3 : W4.cell? ⟨N, 3, none⟩ = some (.string ⟨#[]⟩) := g.cell 3
  exact bodyPost_ret (v := .agg #[.int .i64 c, .int .i64 1, .int .i64 1, .string ⟨#[]⟩]) (by simp [results, Try.results26, go_sem, x0, x1, x2, x3]) rfl ⟨rfl, by rw [HN.out]; exact hbl5⟩

end Go.Proofs.Ytainjagbcbjnbaa
