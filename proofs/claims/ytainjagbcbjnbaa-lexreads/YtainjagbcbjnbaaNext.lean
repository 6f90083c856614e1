/-
  The contracts of lex.cutter and of the function that it hands back: it cuts the next token, and keeps how far it has come.
-/
import Derived.Test.YtainjagbcbjnbaaFront
import Derived.Test.YtainjagbcbjnbaaOnly
namespace Go.Proofs.Ytainjagbcbjnbaa
open Go Go.RowKit Go.Shelf Plain Lex

theorem cutter_calls (s : ByteArray) (w : World) :
    Calls Try.prog 31 #[.string s] w fun e w' => ∃ N, e = .returned (.func (.func 47) #[] #[.pointer (some ⟨N + 1, 0, none⟩), .pointer (some ⟨N, 0, none⟩)]) ∧ w.heap.size = N ∧ Blk w' N 9 #[.string s] ∧ Blk w' (N + 1) 3 #[.int .i64 0] ∧ Below w.heap.size w w' ∧ w'.heap.size = N + 2 := by
  obtain ⟨N, hN⟩ : ∃ N, w.heap.size = N := ⟨_, rfl⟩
  have HN : Hid (w.heap.size = N) := hN
  go_enter Try.func31, Try.ntmps31
  go_wp2
  go_ret
  refine ⟨N, rfl, HN.out, (Blk.new' w N 9 _ hN).alloc _, Blk.new' _ _ 3 _ (by simp [hN]), ?_, by simp [hN]⟩
  exact ((Below.refl _ w).alloc (Nat.le_refl _) _).alloc (by simp) _

/-- A region that draws its order, whose first n operations read alone and whose others are forced: the world behind the draw under a name. -/
theorem region_tail {P : Program} {id : Nat} {Q : Exit → Act → World → Prop} {a : Act} {w : World} {l : List Oper} (n : Nat) (hm : P.follows .mixedOrders = true) (hB : Region.lexTailB .any l.toArray n = true)
    (h : ∀ W, W = w.drew → wpStill P l.toArray W (fun a' => wpList P l.toArray Q (l.drop n) a' W) (l.take n) a) : (Code.region id l.toArray true).wp P Q a w :=
  wp_region_still_tail n hm hB (h _ rfl)

theorem flipW {P : Program} {f : FuncId} {args : Array Value} {w : World} {v : Value} (h : Calls P f args w fun e w' => e = .returned v ∧ w = w') : Calls P f args w fun e w' => e = .returned v ∧ w' = w :=
  h.mono fun _ _ ⟨a, b⟩ => ⟨a, b.symm⟩

set_option maxRecDepth 100000 in
set_option maxHeartbeats 1600000 in
theorem next_calls (s : ByteArray) (hs : s.size ≤ 281474976710656) (A S k : Nat) (hk : k ≤ s.size) (hne : A ≠ S) (w : World) (hA : Blk w A 3 #[.int .i64 k]) (hS : Blk w S 9 #[.string s]) :
    Calls Try.prog 47 #[.pointer (some ⟨A, 0, none⟩), .pointer (some ⟨S, 0, none⟩)] w fun e w' =>
      e = .returned (.tuple #[.agg #[.int .i64 ((fr s (aft s false k)).1 : Int), .string (s.extract (aft s false k) (aft s false k + (fr s (aft s false k)).2)), .int .i64 (aft s false k : Int)], .int .i64 (check (fr s (aft s false k)).1 (fr s (aft s false k)).2 : Int)]) ∧
      Blk w' A 3 #[.int .i64 ((aft s false k + (fr s (aft s false k)).2 : Nat) : Int)] ∧ Only [A] w w' := by
  obtain ⟨N, hN⟩ : ∃ N, w.heap.size = N := ⟨_, rfl⟩
  have HN : Hid (w.heap.size = N) := hN
  have hAN : A < N := by rw [← hN]; exact hA.lt
  have hSN : S < N := by rw [← hN]; exact hS.lt
  obtain ⟨h1, h2⟩ := aft_le s false k hk
  have hg : aft s false k = k + gapR false (s.data.toList.drop k) := rfl
  have c0 := gap_calls (s.extract k s.size) (by rw [ByteArray.size_extract]; omega)
  rw [ext_list] at c0
  generalize gapR false (s.data.toList.drop k) = g at *
  generalize aft s false k = a at *
  subst hg
  have f1 := (fr_at s (k + g) h2).1
  have c1 := front_calls (s.extract (k + g) s.size) (by rw [ByteArray.size_extract]; omega)
  rw [ext_list] at c1
  rw [show front (s.data.toList.drop (k + g)) = fr s (k + g) from rfl] at c1
  generalize fr s (k + g) = f at *
  obtain ⟨kd, n⟩ := f
  simp only at f1 c1 ⊢
  have c2 := check_calls kd n
  generalize check kd n = c at *
  have C0 : Hid _ := c0
  have C1 : Hid _ := c1
  have C2 : Hid _ := c2
  clear c0 c1 c2
  go_enter Try.func47, Try.ntmps47
  go_wp2
  refine region_tail 6 (by kernel_rfl) (by kernel_rfl) ?_
  intro W hW
  have b0 : Blk W A 3 #[.int .i64 k] := by rw [hW]; exact (hA.alloc _).drew
  have b1 : Blk W S 9 #[.string s] := by rw [hW]; exact (hS.alloc _).drew
  have b2 : Blk W N 46 #[.int .i64 0, .string ⟨#[]⟩, .int .i64 0] := by rw [hW]; exact (Blk.new' w N 46 _ hN).drew
  have hO : Only [A] w W := by rw [hW]; exact ((Only.refl [A] w).alloc _).drew
  clear hW
  have q0 : W.cell? ⟨A, 0, none⟩ = some (.int .i64 k) := b0.cell 0
  have q1 : W.cell? ⟨S, 0, none⟩ = some (.string s) := b1.cell 0
  simp only [List.take_succ_cons, List.take_zero, List.drop_succ_cons, List.drop_zero]
  clear hN
  repeat still_step
  still_call (flipW (C0.out _))
  repeat still_step
  refine wpStill_nil ?_
  have f0 : ∀ j, W.frozen? ⟨A, j, none⟩ = false := fun j => b0.frozen j
  go_wp2_with fail
  have d0 : Blk (W.setCell ⟨A, 0, none⟩ (.int .i64 ((k : Int) + (g : Int)))) A 3 #[.int .i64 ((k : Int) + (g : Int))] := b0.set 0 _
  have d1 : Blk (W.setCell ⟨A, 0, none⟩ (.int .i64 ((k : Int) + (g : Int)))) S 9 #[.string s] := b1.other (fun e => hne e.symm) 0 _
  have d2 : Blk (W.setCell ⟨A, 0, none⟩ (.int .i64 ((k : Int) + (g : Int)))) N 46 #[.int .i64 0, .string ⟨#[]⟩, .int .i64 0] := b2.other (by omega) 0 _
  have hO2 : Only [A] w (W.setCell ⟨A, 0, none⟩ (.int .i64 ((k : Int) + (g : Int)))) := hO.set (by simp) 0 _
  generalize W.setCell ⟨A, 0, none⟩ (.int .i64 ((k : Int) + (g : Int))) = W2 at *
  clear b0 b1 b2 hO q0 q1 f0 hA hS
  refine (C1.out _).mono ?_
  rintro e w' ⟨rfl, rfl⟩
  have q0 : W2.cell? ⟨A, 0, none⟩ = some (.int .i64 ((k : Int) + (g : Int))) := d0.cell 0
  have q1 : W2.cell? ⟨S, 0, none⟩ = some (.string s) := d1.cell 0
  obtain ⟨M, hM⟩ : ∃ M, W2.heap.size = M := ⟨_, rfl⟩
  have hAM : A < M := by rw [← hM]; exact d0.lt
  have hSM : S < M := by rw [← hM]; exact d1.lt
  have hNM : N < M := by rw [← hM]; exact d2.lt
  have f0 : ∀ j, W2.frozen? ⟨A, j, none⟩ = false := fun j => d0.frozen j
  go_wp2_with fail
  go_region
  go_wp2_with fail
  refine region_tail 4 (by kernel_rfl) (by kernel_rfl) ?_
  intro W3 hW
  have e0 : Blk W3 A 3 #[.int .i64 ((k : Int) + (g : Int) + (n : Int))] := by rw [hW]; exact (((d0.set 0 _).alloc _).drew).drew
  have e2 : Blk W3 N 46 #[.int .i64 0, .string ⟨#[]⟩, .int .i64 0] := by rw [hW]; exact (((d2.other (by omega) 0 _).alloc _).drew).drew
  have e3 : Blk W3 M 46 #[.int .i64 kd, .string (s.extract (k + g) (k + g + n)), .int .i64 ((k : Int) + (g : Int))] := by rw [hW]; exact ((Blk.new' _ M 46 _ (by simpa [World.setCell] using hM)).drew).drew
  have hO3 : Only [A] w W3 := by rw [hW]; exact (((hO2.set (by simp) 0 _).alloc _).drew).drew
  clear hW hM d0 d1 d2 hO2 q0 q1 f0
  simp only [List.take_succ_cons, List.take_zero, List.drop_succ_cons, List.drop_zero]
  have p0 : W3.cell? ⟨M, 0, none⟩ = some (.int .i64 kd) := e3.cell 0
  have p1 : W3.cell? ⟨M, 1, none⟩ = some (.string (s.extract (k + g) (k + g + n))) := e3.cell 1
  have p2 : W3.cell? ⟨M, 2, none⟩ = some (.int .i64 ((k : Int) + (g : Int))) := e3.cell 2
  repeat still_step
  still_call (flipW (C2.out _))
  refine wpStill_nil ?_
  have o0 : W3.cell? ⟨N, 0, none⟩ = some (.int .i64 0) := e2.cell 0
  have o1 : W3.cell? ⟨N, 1, none⟩ = some (.string ⟨#[]⟩) := e2.cell 1
  have o2 : W3.cell? ⟨N, 2, none⟩ = some (.int .i64 0) := e2.cell 2
  have f1' : ∀ j, W3.frozen? ⟨N, j, none⟩ = false := fun j => e2.frozen j
  go_wp2
  have g1 := ((e2.set 0 (.int .i64 kd)).set 1 (.string (s.extract (k + g) (k + g + n)))).set 2 (.int .i64 ((k : Int) + (g : Int)))
  have g0 := ((e0.other (B' := N) (by omega) 0 (.int .i64 kd)).other (B' := N) (by omega) 1 (.string (s.extract (k + g) (k + g + n)))).other (B' := N) (by omega) 2 (.int .i64 ((k : Int) + (g : Int)))
  have hO4 := ((hO3.setNew (B := N) (by rw [HN.out]; exact Nat.le_refl N) 0 (.int .i64 kd)).setNew (B := N) (by rw [HN.out]; exact Nat.le_refl N) 1 (.string (s.extract (k + g) (k + g + n)))).setNew (B := N) (by rw [HN.out]; exact Nat.le_refl N) 2 (.int .i64 ((k : Int) + (g : Int)))
  generalize ((W3.setCell ⟨N, 0, none⟩ (.int .i64 kd)).setCell ⟨N, 1, none⟩ (.string (s.extract (k + g) (k + g + n)))).setCell ⟨N, 2, none⟩ (.int .i64 ((k : Int) + (g : Int))) = W4 at *
  have r0 : W4.cell? ⟨N, 0, none⟩ = some (.int .i64 kd) := g1.cell 0
  have r1 : W4.cell? ⟨N, 1, none⟩ = some (.string (s.extract (k + g) (k + g + n))) := g1.cell 1
  have r2 : W4.cell? ⟨N, 2, none⟩ = some (.int .i64 ((k : Int) + (g : Int))) := g1.cell 2
  exact bodyPost_ret (v := .tuple #[.agg #[.int .i64 kd, .string (s.extract (k + g) (k + g + n)), .int .i64 ((k : Int) + (g : Int))], .int .i64 c]) (by simp [results, Try.results47, go_sem, r0, r1, r2]) rfl ⟨rfl, g0, hO4⟩

end Go.Proofs.Ytainjagbcbjnbaa
