/-
  The contracts of a reader's Peek, Next and Place, of both sides.
-/
import Derived.Test.YtainjagbcbjnbaaLook
import Derived.Deep.RegionHeld3
namespace Go.Proofs.Ytainjagbcbjnbaa
open Go Go.RowKit Go.Shelf Go.Sort Plain Lex

set_option maxRecDepth 100000 in
set_option maxHeartbeats 800000 in
theorem Peek_calls (R base : Nat) (v : Value) (ts : List Tok) (s : ByteArray) (p : Nat) (n : Int) (w : World) (hR : Rd w 90 46 R base v ts s p) :
    Calls Try.prog 22 #[.pointer (some ⟨R, 0, none⟩), .int .i64 n] w fun e w' => e = .returned (agg (pk ts s p n)) ∧ Below w.heap.size w w' := by
  obtain ⟨N, hN⟩ : ∃ N, w.heap.size = N := ⟨_, rfl⟩
  have HN : Hid (w.heap.size = N) := hN
  obtain ⟨hx1, hx2⟩ := hR.pk n
  have cL := fun w h => look_calls R base v ts s p n w h
  generalize pk ts s p n = t at *
  have CL : Hid _ := cL
  clear cL
  go_enter Try.func22, Try.ntmps22
  go_wp2_with fail
  generalize hW : w.alloc (.cells #[.int .i64 0, .string ⟨#[]⟩, .int .i64 0] 46) = W
  have b0 : Blk W N 46 #[.int .i64 0, .string ⟨#[]⟩, .int .i64 0] := by rw [← hW]; exact Blk.new' w N 46 _ hN
  have hb : Below N w W := by rw [← hW]; exact (Below.refl N w).alloc (by omega) _
  have hRW : Rd W 90 46 R base v ts s p := by rw [← hW]; exact hR.alloc _
  clear hW hN
  refine (CL.out _ hRW).mono ?_
  rintro e w1 ⟨rfl, hb1⟩
  have c0 := b0.below hb1 b0.lt
  have hbb : Below N w w1 := hb.trans (hb1.mono (Nat.le_of_lt b0.lt))
  unfold agg
  go_wp2_with fail
  refine (fresh_calls t.kind t.text t.pos (by omega) _).mono ?_
  rintro e w2 ⟨rfl, hb2⟩
  have d0 := c0.below hb2 c0.lt
  have hbl : Below N w w2 := hbb.trans (hb2.mono (Nat.le_of_lt c0.lt))
  have q0 : w2.cell? ⟨N, 0, none⟩ = some (.int .i64 0) := d0.cell 0
  have q1 : w2.cell? ⟨N, 1, none⟩ = some (.string ⟨#[]⟩) := d0.cell 1
  have q2 : w2.cell? ⟨N, 2, none⟩ = some (.int .i64 0) := d0.cell 2
  have fz : ∀ j, w2.frozen? ⟨N, j, none⟩ = false := fun j => d0.frozen j
  go_wp2
  have g := ((d0.set 0 (.int .i64 t.kind)).set 1 (.string t.text)).set 2 (.int .i64 t.pos)
  have hbl5 := bset (i := 2) (bset (i := 1) (bset (i := 0) hbl (Nat.le_refl N) (.int .i64 t.kind)) (Nat.le_refl N) (.string t.text)) (Nat.le_refl N) (.int .i64 t.pos)
  generalize ((w2.setCell ⟨N, 0, none⟩ (.int .i64 t.kind)).setCell ⟨N, 1, none⟩ (.string t.text)).setCell ⟨N, 2, none⟩ (.int .i64 t.pos) = W4 at *
  have x0 : W4.cell? ⟨N, 0, none⟩ = some (.int .i64 t.kind) := g.cell 0
  have x1 : W4.cell? ⟨N, 1, none⟩ = some (.string t.text) := g.cell 1
  have x2 : W4.cell? ⟨N, 2, none⟩ = some (.int .i64 t.pos) := g.cell 2
  exact bodyPost_ret (v := .agg #[.int .i64 t.kind, .string t.text, .int .i64 t.pos]) (by simp [results, Try.results22, go_sem, x0, x1, x2]) rfl ⟨rfl, by rw [HN.out]; exact hbl5⟩

/-- How Next goes on. -/
def nx (ts : List Tok) (p : Nat) : Nat := if p < ts.length then p + 1 else p

set_option maxRecDepth 100000 in
set_option maxHeartbeats 1600000 in
theorem Next_calls (R base : Nat) (v : Value) (ts : List Tok) (s : ByteArray) (p : Nat) (w : World) (hR : Rd w 90 46 R base v ts s p) :
    Calls Try.prog 20 #[.pointer (some ⟨R, 0, none⟩)] w fun e w' => e = .returned (agg (pk ts s p 0)) ∧ Rd w' 90 46 R base v ts s (nx ts p) ∧ Only [R] w w' := by
  obtain ⟨N, hN⟩ : ∃ N, w.heap.size = N := ⟨_, rfl⟩
  have HN : Hid (w.heap.size = N) := hN
  have hRN : R < N := by rw [← hN]; exact hR.blk.lt
  obtain ⟨a, cap, rfl, hcap, _⟩ := hR.row.shape
  have hle := hR.le
  have hfew := hR.few
  have cL := fun w h => Peek_calls R base (.slice a ts.length cap) ts s p 0 w h
  generalize pk ts s p 0 = t at *
  have CL : Hid _ := cL
  clear cL
  have hRb := hR.apart
  have hrow0 := hR.row
  by_cases hlt : p < ts.length
  · have HP : Hid (p + 1 = nx ts p) := by show _ = _; unfold nx; rw [if_pos hlt]
    have hd : decide ((p : Int) < (ts.length : Int)) = true := by simpa using hlt
    go_enter Try.func20, Try.ntmps20
    go_wp2_with fail
    generalize hW : w.alloc (.cells #[.int .i64 0, .string ⟨#[]⟩, .int .i64 0] 46) = W
    have b0 : Blk W N 46 #[.int .i64 0, .string ⟨#[]⟩, .int .i64 0] := by rw [← hW]; exact Blk.new' w N 46 _ hN
    have hO : Only [R] w W := by rw [← hW]; exact (Only.refl [R] w).alloc _
    have hRW : Rd W 90 46 R base (.slice a ts.length cap) ts s p := by rw [← hW]; exact hR.alloc _
    clear hW hN hR
    refine (CL.out _ hRW).mono ?_
    rintro e w1 ⟨rfl, hb1⟩
    have c0 := b0.below hb1 b0.lt
    have hO1 : Only [R] w w1 := hO.trans (Only.of_below' hb1)
    have hR1 := hRW.below hb1
    clear hRW hb1 hO b0
    unfold agg
    obtain ⟨M, hM⟩ : ∃ M, w1.heap.size = M := ⟨_, rfl⟩
    have hNM : N < M := by rw [← hM]; exact c0.lt
    have q0 : ∀ o, (w1.alloc o).cell? ⟨R, 0, none⟩ = some (.slice a ts.length cap) := fun o => (hR1.blk.alloc o).cell 0
    have q2 : ∀ o, (w1.alloc o).cell? ⟨R, 2, none⟩ = some (.int .i64 p) := fun o => (hR1.blk.alloc o).cell 2
    have fR : ∀ o j, (w1.alloc o).frozen? ⟨R, j, none⟩ = false := fun o j => (hR1.blk.alloc o).frozen j
    have e0 : ∀ o, (w1.alloc o).cell? ⟨N, 0, none⟩ = some (.int .i64 0) := fun o => (c0.alloc o).cell 0
    have e1 : ∀ o, (w1.alloc o).cell? ⟨N, 1, none⟩ = some (.string ⟨#[]⟩) := fun o => (c0.alloc o).cell 1
    have e2 : ∀ o, (w1.alloc o).cell? ⟨N, 2, none⟩ = some (.int .i64 0) := fun o => (c0.alloc o).cell 2
    have fN : ∀ o j, (w1.alloc o).frozen? ⟨N, j, none⟩ = false := fun o j => (c0.alloc o).frozen j
    go_wp2_with fail
    go_quiet (fail)
    go_wp2
    obtain ⟨o, ho⟩ : ∃ o, o = Obj.cells #[.int .i64 t.kind, .string t.text, .int .i64 t.pos] 46 := ⟨_, rfl⟩
    rw [← ho]
    have hRm := (show Rd ((w1.alloc o).drewN nq) 90 46 R base (.slice a ts.length cap) ts s p from ⟨hR1.blk.alloc o, hR1.row.alloc o, hR1.le, hR1.few, hR1.short, hR1.apart, hR1.small⟩).move (p + 1) (by omega)
    have hOm : Only [R] w (((w1.alloc o).drewN nq).setCell ⟨R, 2, none⟩ (.int .i64 ((p + 1 : Nat) : Int))) := (show Only [R] w ((w1.alloc o).drewN nq) from ⟨(hO1.alloc o).os, (hO1.alloc o).tape, (hO1.alloc o).output, (hO1.alloc o).size, (hO1.alloc o).block⟩).set (by simp) 2 _
    have cm : Blk (((w1.alloc o).drewN nq).setCell ⟨R, 2, none⟩ (.int .i64 ((p + 1 : Nat) : Int))) N 46 #[.int .i64 0, .string ⟨#[]⟩, .int .i64 0] := (show Blk ((w1.alloc o).drewN nq) N 46 _ from c0.alloc o).other (by omega) 2 _
    have ez : ((p + 1 : Nat) : Int) = (p : Int) + 1 := by omega
    rw [ez] at hRm hOm cm
    generalize ((w1.alloc o).drewN nq).setCell ⟨R, 2, none⟩ (.int .i64 ((p : Int) + 1)) = W3 at *
    have g := ((cm.set 0 (.int .i64 t.kind)).set 1 (.string t.text)).set 2 (.int .i64 t.pos)
    have hNN : w.heap.size ≤ N := by rw [HN.out]; exact Nat.le_refl N
    have hO5 := ((hOm.setNew (B := N) hNN 0 (.int .i64 t.kind)).setNew (B := N) hNN 1 (.string t.text)).setNew (B := N) hNN 2 (.int .i64 t.pos)
    have k5 := ((hRm.blk.other (B' := N) (by omega) 0 (.int .i64 t.kind)).other (B' := N) (by omega) 1 (.string t.text)).other (B' := N) (by omega) 2 (.int .i64 t.pos)
    generalize ((W3.setCell ⟨N, 0, none⟩ (.int .i64 t.kind)).setCell ⟨N, 1, none⟩ (.string t.text)).setCell ⟨N, 2, none⟩ (.int .i64 t.pos) = W4 at *
    have hR5 : Rd W4 90 46 R base (.slice a ts.length cap) ts s (p + 1) := ⟨k5, hrow0.keep hO5 (fun k hk => by rw [List.mem_singleton.1 hk]; exact hRb), hRm.le, hRm.few, hRm.short, hRm.apart, hRm.small⟩
    have x0 : W4.cell? ⟨N, 0, none⟩ = some (.int .i64 t.kind) := g.cell 0
    have x1 : W4.cell? ⟨N, 1, none⟩ = some (.string t.text) := g.cell 1
    have x2 : W4.cell? ⟨N, 2, none⟩ = some (.int .i64 t.pos) := g.cell 2
    exact bodyPost_ret (v := .agg #[.int .i64 t.kind, .string t.text, .int .i64 t.pos]) (by simp [results, Try.results20, go_sem, x0, x1, x2]) rfl ⟨rfl, HP.out ▸ hR5, hO5⟩
  · have HP : Hid (p = nx ts p) := by show _ = _; unfold nx; rw [if_neg hlt]
    have hd : decide ((p : Int) < (ts.length : Int)) = false := by simpa using hlt
    go_enter Try.func20, Try.ntmps20
    go_wp2_with fail
    generalize hW : w.alloc (.cells #[.int .i64 0, .string ⟨#[]⟩, .int .i64 0] 46) = W
    have b0 : Blk W N 46 #[.int .i64 0, .string ⟨#[]⟩, .int .i64 0] := by rw [← hW]; exact Blk.new' w N 46 _ hN
    have hO : Only [R] w W := by rw [← hW]; exact (Only.refl [R] w).alloc _
    have hRW : Rd W 90 46 R base (.slice a ts.length cap) ts s p := by rw [← hW]; exact hR.alloc _
    clear hW hN hR
    refine (CL.out _ hRW).mono ?_
    rintro e w1 ⟨rfl, hb1⟩
    have c0 := b0.below hb1 b0.lt
    have hO1 : Only [R] w w1 := hO.trans (Only.of_below' hb1)
    have hR1 := hRW.below hb1
    clear hRW hb1 hO b0
    unfold agg
    obtain ⟨M, hM⟩ : ∃ M, w1.heap.size = M := ⟨_, rfl⟩
    have hNM : N < M := by rw [← hM]; exact c0.lt
    have q0 : ∀ o, (w1.alloc o).cell? ⟨R, 0, none⟩ = some (.slice a ts.length cap) := fun o => (hR1.blk.alloc o).cell 0
    have q2 : ∀ o, (w1.alloc o).cell? ⟨R, 2, none⟩ = some (.int .i64 p) := fun o => (hR1.blk.alloc o).cell 2
    have fR : ∀ o j, (w1.alloc o).frozen? ⟨R, j, none⟩ = false := fun o j => (hR1.blk.alloc o).frozen j
    have e0 : ∀ o, (w1.alloc o).cell? ⟨N, 0, none⟩ = some (.int .i64 0) := fun o => (c0.alloc o).cell 0
    have e1 : ∀ o, (w1.alloc o).cell? ⟨N, 1, none⟩ = some (.string ⟨#[]⟩) := fun o => (c0.alloc o).cell 1
    have e2 : ∀ o, (w1.alloc o).cell? ⟨N, 2, none⟩ = some (.int .i64 0) := fun o => (c0.alloc o).cell 2
    have fN : ∀ o j, (w1.alloc o).frozen? ⟨N, j, none⟩ = false := fun o j => (c0.alloc o).frozen j
    go_wp2_with fail
    go_quiet (fail)
    go_wp2
    obtain ⟨o, ho⟩ : ∃ o, o = Obj.cells #[.int .i64 t.kind, .string t.text, .int .i64 t.pos] 46 := ⟨_, rfl⟩
    rw [← ho]
    have hRm : Rd ((w1.alloc o).drewN nq) 90 46 R base (.slice a ts.length cap) ts s p := ⟨hR1.blk.alloc o, hR1.row.alloc o, hR1.le, hR1.few, hR1.short, hR1.apart, hR1.small⟩
    have hOm : Only [R] w ((w1.alloc o).drewN nq) := ⟨(hO1.alloc o).os, (hO1.alloc o).tape, (hO1.alloc o).output, (hO1.alloc o).size, (hO1.alloc o).block⟩
    have cm : Blk ((w1.alloc o).drewN nq) N 46 #[.int .i64 0, .string ⟨#[]⟩, .int .i64 0] := c0.alloc o
    generalize (w1.alloc o).drewN nq = W3 at *
    have g := ((cm.set 0 (.int .i64 t.kind)).set 1 (.string t.text)).set 2 (.int .i64 t.pos)
    have hNN : w.heap.size ≤ N := by rw [HN.out]; exact Nat.le_refl N
    have hO5 := ((hOm.setNew (B := N) hNN 0 (.int .i64 t.kind)).setNew (B := N) hNN 1 (.string t.text)).setNew (B := N) hNN 2 (.int .i64 t.pos)
    have k5 := ((hRm.blk.other (B' := N) (by omega) 0 (.int .i64 t.kind)).other (B' := N) (by omega) 1 (.string t.text)).other (B' := N) (by omega) 2 (.int .i64 t.pos)
    generalize ((W3.setCell ⟨N, 0, none⟩ (.int .i64 t.kind)).setCell ⟨N, 1, none⟩ (.string t.text)).setCell ⟨N, 2, none⟩ (.int .i64 t.pos) = W4 at *
    have hR5 : Rd W4 90 46 R base (.slice a ts.length cap) ts s (p) := ⟨k5, hrow0.keep hO5 (fun k hk => by rw [List.mem_singleton.1 hk]; exact hRb), hRm.le, hRm.few, hRm.short, hRm.apart, hRm.small⟩
    have x0 : W4.cell? ⟨N, 0, none⟩ = some (.int .i64 t.kind) := g.cell 0
    have x1 : W4.cell? ⟨N, 1, none⟩ = some (.string t.text) := g.cell 1
    have x2 : W4.cell? ⟨N, 2, none⟩ = some (.int .i64 t.pos) := g.cell 2
    exact bodyPost_ret (v := .agg #[.int .i64 t.kind, .string t.text, .int .i64 t.pos]) (by simp [results, Try.results20, go_sem, x0, x1, x2]) rfl ⟨rfl, HP.out ▸ hR5, hO5⟩

set_option maxRecDepth 100000 in
set_option maxHeartbeats 1600000 in
theorem refNext_calls (R base : Nat) (v : Value) (ts : List Tok) (s : ByteArray) (p : Nat) (w : World) (hR : Rd w 55 59 R base v ts s p) :
    Calls Try.prog 21 #[.pointer (some ⟨R, 0, none⟩)] w fun e w' => e = .returned (agg (pk ts s p 0)) ∧ Rd w' 55 59 R base v ts s (nx ts p) ∧ Only [R] w w' := by
  obtain ⟨N, hN⟩ : ∃ N, w.heap.size = N := ⟨_, rfl⟩
  have HN : Hid (w.heap.size = N) := hN
  have hRN : R < N := by rw [← hN]; exact hR.blk.lt
  obtain ⟨a, cap, rfl, hcap, _⟩ := hR.row.shape
  have hle := hR.le
  have hfew := hR.few
  have cL := fun w h => refPeek_calls R base (.slice a ts.length cap) ts s p 0 w h
  generalize pk ts s p 0 = t at *
  have CL : Hid _ := cL
  clear cL
  have hRb := hR.apart
  have hrow0 := hR.row
  by_cases hlt : p < ts.length
  · have HP : Hid (p + 1 = nx ts p) := by show _ = _; unfold nx; rw [if_pos hlt]
    have hd : decide ((p : Int) < (ts.length : Int)) = true := by simpa using hlt
    go_enter Try.func21, Try.ntmps21
    go_wp2_with fail
    generalize hW : w.alloc (.cells #[.int .i64 0, .string ⟨#[]⟩, .int .i64 0] 59) = W
    have b0 : Blk W N 59 #[.int .i64 0, .string ⟨#[]⟩, .int .i64 0] := by rw [← hW]; exact Blk.new' w N 59 _ hN
    have hO : Only [R] w W := by rw [← hW]; exact (Only.refl [R] w).alloc _
    have hRW : Rd W 55 59 R base (.slice a ts.length cap) ts s p := by rw [← hW]; exact hR.alloc _
    clear hW hN hR
    refine (CL.out _ hRW).mono ?_
    rintro e w1 ⟨rfl, hb1⟩
    have c0 := b0.below hb1 b0.lt
    have hO1 : Only [R] w w1 := hO.trans (Only.of_below' hb1)
    have hR1 := hRW.below hb1
    clear hRW hb1 hO b0
    unfold agg
    obtain ⟨M, hM⟩ : ∃ M, w1.heap.size = M := ⟨_, rfl⟩
    have hNM : N < M := by rw [← hM]; exact c0.lt
    have q0 : ∀ o, (w1.alloc o).cell? ⟨R, 0, none⟩ = some (.slice a ts.length cap) := fun o => (hR1.blk.alloc o).cell 0
    have q2 : ∀ o, (w1.alloc o).cell? ⟨R, 2, none⟩ = some (.int .i64 p) := fun o => (hR1.blk.alloc o).cell 2
    have fR : ∀ o j, (w1.alloc o).frozen? ⟨R, j, none⟩ = false := fun o j => (hR1.blk.alloc o).frozen j
    have e0 : ∀ o, (w1.alloc o).cell? ⟨N, 0, none⟩ = some (.int .i64 0) := fun o => (c0.alloc o).cell 0
    have e1 : ∀ o, (w1.alloc o).cell? ⟨N, 1, none⟩ = some (.string ⟨#[]⟩) := fun o => (c0.alloc o).cell 1
    have e2 : ∀ o, (w1.alloc o).cell? ⟨N, 2, none⟩ = some (.int .i64 0) := fun o => (c0.alloc o).cell 2
    have fN : ∀ o j, (w1.alloc o).frozen? ⟨N, j, none⟩ = false := fun o j => (c0.alloc o).frozen j
    go_wp2_with fail
    go_quiet (fail)
    go_wp2
    obtain ⟨o, ho⟩ : ∃ o, o = Obj.cells #[.int .i64 t.kind, .string t.text, .int .i64 t.pos] 59 := ⟨_, rfl⟩
    rw [← ho]
    have hRm := (show Rd ((w1.alloc o).drewN nq) 55 59 R base (.slice a ts.length cap) ts s p from ⟨hR1.blk.alloc o, hR1.row.alloc o, hR1.le, hR1.few, hR1.short, hR1.apart, hR1.small⟩).move (p + 1) (by omega)
    have hOm : Only [R] w (((w1.alloc o).drewN nq).setCell ⟨R, 2, none⟩ (.int .i64 ((p + 1 : Nat) : Int))) := (show Only [R] w ((w1.alloc o).drewN nq) from ⟨(hO1.alloc o).os, (hO1.alloc o).tape, (hO1.alloc o).output, (hO1.alloc o).size, (hO1.alloc o).block⟩).set (by simp) 2 _
    have cm : Blk (((w1.alloc o).drewN nq).setCell ⟨R, 2, none⟩ (.int .i64 ((p + 1 : Nat) : Int))) N 59 #[.int .i64 0, .string ⟨#[]⟩, .int .i64 0] := (show Blk ((w1.alloc o).drewN nq) N 59 _ from c0.alloc o).other (by omega) 2 _
    have ez : ((p + 1 : Nat) : Int) = (p : Int) + 1 := by omega
    rw [ez] at hRm hOm cm
    generalize ((w1.alloc o).drewN nq).setCell ⟨R, 2, none⟩ (.int .i64 ((p : Int) + 1)) = W3 at *
    have g := ((cm.set 0 (.int .i64 t.kind)).set 1 (.string t.text)).set 2 (.int .i64 t.pos)
    have hNN : w.heap.size ≤ N := by rw [HN.out]; exact Nat.le_refl N
    have hO5 := ((hOm.setNew (B := N) hNN 0 (.int .i64 t.kind)).setNew (B := N) hNN 1 (.string t.text)).setNew (B := N) hNN 2 (.int .i64 t.pos)
    have k5 := ((hRm.blk.other (B' := N) (by omega) 0 (.int .i64 t.kind)).other (B' := N) (by omega) 1 (.string t.text)).other (B' := N) (by omega) 2 (.int .i64 t.pos)
    generalize ((W3.setCell ⟨N, 0, none⟩ (.int .i64 t.kind)).setCell ⟨N, 1, none⟩ (.string t.text)).setCell ⟨N, 2, none⟩ (.int .i64 t.pos) = W4 at *
    have hR5 : Rd W4 55 59 R base (.slice a ts.length cap) ts s (p + 1) := ⟨k5, hrow0.keep hO5 (fun k hk => by rw [List.mem_singleton.1 hk]; exact hRb), hRm.le, hRm.few, hRm.short, hRm.apart, hRm.small⟩
    have x0 : W4.cell? ⟨N, 0, none⟩ = some (.int .i64 t.kind) := g.cell 0
    have x1 : W4.cell? ⟨N, 1, none⟩ = some (.string t.text) := g.cell 1
    have x2 : W4.cell? ⟨N, 2, none⟩ = some (.int .i64 t.pos) := g.cell 2
    exact bodyPost_ret (v := .agg #[.int .i64 t.kind, .string t.text, .int .i64 t.pos]) (by simp [results, Try.results21, go_sem, x0, x1, x2]) rfl ⟨rfl, HP.out ▸ hR5, hO5⟩
  · have HP : Hid (p = nx ts p) := by show _ = _; unfold nx; rw [if_neg hlt]
    have hd : decide ((p : Int) < (ts.length : Int)) = false := by simpa using hlt
    go_enter Try.func21, Try.ntmps21
    go_wp2_with fail
    generalize hW : w.alloc (.cells #[.int .i64 0, .string ⟨#[]⟩, .int .i64 0] 59) = W
    have b0 : Blk W N 59 #[.int .i64 0, .string ⟨#[]⟩, .int .i64 0] := by rw [← hW]; exact Blk.new' w N 59 _ hN
    have hO : Only [R] w W := by rw [← hW]; exact (Only.refl [R] w).alloc _
    have hRW : Rd W 55 59 R base (.slice a ts.length cap) ts s p := by rw [← hW]; exact hR.alloc _
    clear hW hN hR
    refine (CL.out _ hRW).mono ?_
    rintro e w1 ⟨rfl, hb1⟩
    have c0 := b0.below hb1 b0.lt
    have hO1 : Only [R] w w1 := hO.trans (Only.of_below' hb1)
    have hR1 := hRW.below hb1
    clear hRW hb1 hO b0
    unfold agg
    obtain ⟨M, hM⟩ : ∃ M, w1.heap.size = M := ⟨_, rfl⟩
    have hNM : N < M := by rw [← hM]; exact c0.lt
    have q0 : ∀ o, (w1.alloc o).cell? ⟨R, 0, none⟩ = some (.slice a ts.length cap) := fun o => (hR1.blk.alloc o).cell 0
    have q2 : ∀ o, (w1.alloc o).cell? ⟨R, 2, none⟩ = some (.int .i64 p) := fun o => (hR1.blk.alloc o).cell 2
    have fR : ∀ o j, (w1.alloc o).frozen? ⟨R, j, none⟩ = false := fun o j => (hR1.blk.alloc o).frozen j
    have e0 : ∀ o, (w1.alloc o).cell? ⟨N, 0, none⟩ = some (.int .i64 0) := fun o => (c0.alloc o).cell 0
    have e1 : ∀ o, (w1.alloc o).cell? ⟨N, 1, none⟩ = some (.string ⟨#[]⟩) := fun o => (c0.alloc o).cell 1
    have e2 : ∀ o, (w1.alloc o).cell? ⟨N, 2, none⟩ = some (.int .i64 0) := fun o => (c0.alloc o).cell 2
    have fN : ∀ o j, (w1.alloc o).frozen? ⟨N, j, none⟩ = false := fun o j => (c0.alloc o).frozen j
    go_wp2_with fail
    go_quiet (fail)
    go_wp2
    obtain ⟨o, ho⟩ : ∃ o, o = Obj.cells #[.int .i64 t.kind, .string t.text, .int .i64 t.pos] 59 := ⟨_, rfl⟩
    rw [← ho]
    have hRm : Rd ((w1.alloc o).drewN nq) 55 59 R base (.slice a ts.length cap) ts s p := ⟨hR1.blk.alloc o, hR1.row.alloc o, hR1.le, hR1.few, hR1.short, hR1.apart, hR1.small⟩
    have hOm : Only [R] w ((w1.alloc o).drewN nq) := ⟨(hO1.alloc o).os, (hO1.alloc o).tape, (hO1.alloc o).output, (hO1.alloc o).size, (hO1.alloc o).block⟩
    have cm : Blk ((w1.alloc o).drewN nq) N 59 #[.int .i64 0, .string ⟨#[]⟩, .int .i64 0] := c0.alloc o
    generalize (w1.alloc o).drewN nq = W3 at *
    have g := ((cm.set 0 (.int .i64 t.kind)).set 1 (.string t.text)).set 2 (.int .i64 t.pos)
    have hNN : w.heap.size ≤ N := by rw [HN.out]; exact Nat.le_refl N
    have hO5 := ((hOm.setNew (B := N) hNN 0 (.int .i64 t.kind)).setNew (B := N) hNN 1 (.string t.text)).setNew (B := N) hNN 2 (.int .i64 t.pos)
    have k5 := ((hRm.blk.other (B' := N) (by omega) 0 (.int .i64 t.kind)).other (B' := N) (by omega) 1 (.string t.text)).other (B' := N) (by omega) 2 (.int .i64 t.pos)
    generalize ((W3.setCell ⟨N, 0, none⟩ (.int .i64 t.kind)).setCell ⟨N, 1, none⟩ (.string t.text)).setCell ⟨N, 2, none⟩ (.int .i64 t.pos) = W4 at *
    have hR5 : Rd W4 55 59 R base (.slice a ts.length cap) ts s (p) := ⟨k5, hrow0.keep hO5 (fun k hk => by rw [List.mem_singleton.1 hk]; exact hRb), hRm.le, hRm.few, hRm.short, hRm.apart, hRm.small⟩
    have x0 : W4.cell? ⟨N, 0, none⟩ = some (.int .i64 t.kind) := g.cell 0
    have x1 : W4.cell? ⟨N, 1, none⟩ = some (.string t.text) := g.cell 1
    have x2 : W4.cell? ⟨N, 2, none⟩ = some (.int .i64 t.pos) := g.cell 2
    exact bodyPost_ret (v := .agg #[.int .i64 t.kind, .string t.text, .int .i64 t.pos]) (by simp [results, Try.results21, go_sem, x0, x1, x2]) rfl ⟨rfl, HP.out ▸ hR5, hO5⟩

end Go.Proofs.Ytainjagbcbjnbaa
