/-
  The walk of the law PlaceOrders: whatever the text, the numbers and the marks, it answers true.
-/
import Derived.Test.YtjmpacenlmoldaaDoorText
namespace Go.Proofs.YtjmpacenlmoldaaDoor
open Go Go.RowKit Go.Shelf Go.Sort Plain

set_option maxHeartbeats 1600000 in
theorem orders_lt (s t : ByteArray) (hts : t.size ≤ 1000) (a b L C P Q a1 b1 a2 b2 : Int) (i j : Nat) (hij : i < j)
    (hi : Hid (wrap64 ((IntKind.u64.wrap a).tmod ((t.size : Int) + 1)) = (i : Int))) (hj : Hid (wrap64 ((IntKind.u64.wrap b).tmod ((t.size : Int) + 1)) = (j : Int)))
    (h8 : Hid (∀ w, Calls Tryd.prog 8 #[.string s] w fun e w' => e = .returned (.string t) ∧ w' = w))
    (h9i : Hid (∀ w, Calls Tryd.prog 9 #[.string t, .int .i64 i] w fun e w' => e = .returned (.tuple #[.agg #[.int .i64 a1, .int .i64 b1], .int .i64 0]) ∧ Below w.heap.size w w'))
    (h9j : Hid (∀ w, Calls Tryd.prog 9 #[.string t, .int .i64 j] w fun e w' => e = .returned (.tuple #[.agg #[.int .i64 a2, .int .i64 b2], .int .i64 0]) ∧ Below w.heap.size w w'))
    (h19 : Hid (∀ w, Calls Tryd.prog 19 #[.agg #[.int .i64 a1, .int .i64 b1], .agg #[.int .i64 a2, .int .i64 b2]] w fun e w' => e = .returned (.int .i64 (-1)) ∧ Below w.heap.size w w'))
    (w : World) (hL : Laid w) :
    Calls Tryd.prog 5 #[.string s, .int .i64 a, .int .i64 b, .agg #[.int .i64 L, .int .i64 C], .agg #[.int .i64 P, .int .i64 Q]] w fun r w' => r = .returned (.bool true) ∧ Below w.heap.size w w' := by
  obtain ⟨N, hN⟩ : ∃ N, w.heap.size = N := ⟨_, rfl⟩
  have HN : Hid (w.heap.size = N) := hN
  have e1 : decide ((i : Int) < (j : Int)) = true := by simp; omega
  have e2 : ((i : Int) == (j : Int)) = false := by simp; omega
  have e3 : decide (i < j) = true := by simp; omega
  have e4 : (i == j) = false := by simp; omega

  go_enter Tryd.func5, Tryd.ntmps5
  go_wp2_with (go_at_call 8; refine (h8.out _).mono ?_; rintro e w' ⟨rfl, rfl⟩)
  go_quiet (fail)
  rw [hi.out, hj.out]
  generalize hW : ((w.alloc (.cells #[.int .i64 L, .int .i64 C] 23)).alloc (.cells #[.int .i64 P, .int .i64 Q] 23)).drewN nq = W
  have bx : Blk W N 23 #[.int .i64 L, .int .i64 C] := by rw [← hW]; exact (Blk.new' w N 23 _ hN).alloc _
  have byy : Blk W (N + 1) 23 #[.int .i64 P, .int .i64 Q] := by rw [← hW]; exact Blk.new' _ _ 23 _ (by simp [hN])
  have B0 : Below N w W := by rw [← hW]; exact below_drewN (((Below.refl N w).alloc (by simp [hN]) _).alloc (by simp [hN]) _) nq
  clear hW hN
  go_wp2_with fail
  refine (h9i.out _).mono ?_
  rintro e w1 ⟨rfl, hb1⟩
  have bx1 := bx.below hb1 bx.lt
  have by1 := byy.below hb1 byy.lt
  have B1 : Below N w w1 := B0.trans (hb1.mono (Nat.le_of_lt bx.lt))
  go_wp2_with fail
  obtain ⟨M, hM⟩ : ∃ M, w1.heap.size = M := ⟨_, rfl⟩
  rw [hM]
  have hNM : N + 1 < M := by rw [← hM]; exact by1.lt
  generalize hW : w1.alloc (.cells #[.int .i64 a1, .int .i64 b1] 25) = W2
  have m2 : Blk W2 M 25 #[.int .i64 a1, .int .i64 b1] := by rw [← hW]; exact Blk.new' w1 M 25 _ hM
  have bx2 : Blk W2 N 23 #[.int .i64 L, .int .i64 C] := by rw [← hW]; exact bx1.alloc _
  have by2 : Blk W2 (N + 1) 23 #[.int .i64 P, .int .i64 Q] := by rw [← hW]; exact by1.alloc _
  have B2 : Below N w W2 := by rw [← hW]; exact B1.alloc (by omega) _
  clear hW hM
  refine (h9j.out _).mono ?_
  rintro e w3 ⟨rfl, hb3⟩
  have m3 := m2.below hb3 m2.lt
  have bx3 := bx2.below hb3 bx2.lt
  have by3 := by2.below hb3 by2.lt
  have B3 : Below N w w3 := B2.trans (hb3.mono (Nat.le_of_lt bx2.lt))
  go_wp2_with fail
  obtain ⟨M2, hM⟩ : ∃ M2, w3.heap.size = M2 := ⟨_, rfl⟩
  rw [hM]
  have hM2 : M < M2 := by rw [← hM]; exact m3.lt
  generalize hW : w3.alloc (.cells #[.int .i64 a2, .int .i64 b2] 25) = G
  have n4 : Blk G M2 25 #[.int .i64 a2, .int .i64 b2] := by rw [← hW]; exact Blk.new' w3 M2 25 _ hM
  have m4 : Blk G M 25 #[.int .i64 a1, .int .i64 b1] := by rw [← hW]; exact m3.alloc _
  have bx4 : Blk G N 23 #[.int .i64 L, .int .i64 C] := by rw [← hW]; exact bx3.alloc _
  have by4 : Blk G (N + 1) 23 #[.int .i64 P, .int .i64 Q] := by rw [← hW]; exact by3.alloc _
  have B4 : Below N w G := by rw [← hW]; exact B3.alloc (by omega) _
  have hLG : Laid G := hL.below (by rw [HN.out]; exact B4)
  clear hW hM
  have kbx40 : ∀ d os, (grow (redrawn G d) os).cell? ⟨N, 0, none⟩ = some (.int .i64 L) := fun d os => cell_regrown (bx4.cell 0) d os
  have kbx41 : ∀ d os, (grow (redrawn G d) os).cell? ⟨N, 1, none⟩ = some (.int .i64 C) := fun d os => cell_regrown (bx4.cell 1) d os
  have kby40 : ∀ d os, (grow (redrawn G d) os).cell? ⟨N + 1, 0, none⟩ = some (.int .i64 P) := fun d os => cell_regrown (by4.cell 0) d os
  have kby41 : ∀ d os, (grow (redrawn G d) os).cell? ⟨N + 1, 1, none⟩ = some (.int .i64 Q) := fun d os => cell_regrown (by4.cell 1) d os
  have km40 : ∀ d os, (grow (redrawn G d) os).cell? ⟨M, 0, none⟩ = some (.int .i64 a1) := fun d os => cell_regrown (m4.cell 0) d os
  have km41 : ∀ d os, (grow (redrawn G d) os).cell? ⟨M, 1, none⟩ = some (.int .i64 b1) := fun d os => cell_regrown (m4.cell 1) d os
  have kn40 : ∀ d os, (grow (redrawn G d) os).cell? ⟨M2, 0, none⟩ = some (.int .i64 a2) := fun d os => cell_regrown (n4.cell 0) d os
  have kn41 : ∀ d os, (grow (redrawn G d) os).cell? ⟨M2, 1, none⟩ = some (.int .i64 b2) := fun d os => cell_regrown (n4.cell 1) d os
  have CK : Hid (∀ d os, Calls Tryd.prog 13 #[] (grow (redrawn G d) os) fun e w'' => e = .returned (.bool true) ∧ ∃ p : Regrown, w'' = grow (redrawn G p.d) p.os) := fun d os => Calls.regrown_of (known_calls _ (hLG.below (below_regrown G d os)))
  have CL : Hid (∀ d os, Calls Tryd.prog 11 #[.agg #[.int .i64 L, .int .i64 C]] (grow (redrawn G d) os) fun e w'' => e = .returned (.agg #[.int .i64 L, .int .i64 C]) ∧ ∃ p : Regrown, w'' = grow (redrawn G p.d) p.os) := fun d os => Calls.regrown_of (to_calls L C _)
  have CP : Hid (∀ d os, Calls Tryd.prog 11 #[.agg #[.int .i64 P, .int .i64 Q]] (grow (redrawn G d) os) fun e w'' => e = .returned (.agg #[.int .i64 P, .int .i64 Q]) ∧ ∃ p : Regrown, w'' = grow (redrawn G p.d) p.os) := fun d os => Calls.regrown_of (to_calls P Q _)
  have CC : Hid (∀ d os, Calls Tryd.prog 19 #[.agg #[.int .i64 L, .int .i64 C], .agg #[.int .i64 P, .int .i64 Q]] (grow (redrawn G d) os) fun e w'' => e = .returned (.int .i64 (cmpM L C P Q)) ∧ ∃ p : Regrown, w'' = grow (redrawn G p.d) p.os) := fun d os => Calls.regrown_of (Compare_calls L C P Q _)
  have CR : Hid (∀ d os, Calls Tryd.prog 20 #[.agg #[.int .i64 L, .int .i64 C], .agg #[.int .i64 P, .int .i64 Q]] (grow (redrawn G d) os) fun e w'' => e = .returned (.int .i64 (cmpM L C P Q)) ∧ ∃ p : Regrown, w'' = grow (redrawn G p.d) p.os) := fun d os => Calls.regrown_of (refCompare_calls L C P Q _)
  have CM : Hid (∀ d os, Calls Tryd.prog 19 #[.agg #[.int .i64 a1, .int .i64 b1], .agg #[.int .i64 a2, .int .i64 b2]] (grow (redrawn G d) os) fun e w'' => e = .returned (.int .i64 (-1)) ∧ ∃ p : Regrown, w'' = grow (redrawn G p.d) p.os) := fun d os => Calls.regrown_of (h19.out _)
  refine wp_region_quiet_below (by kernel_rfl) (by kernel_rfl) ?_
  repeat (quiet_step (first | (go_at_call 13; exact CK.out _ _) | (go_at_call_of 11 L; exact CL.out _ _) | (go_at_call_of 11 P; exact CP.out _ _) | (go_at_call_of 19 L; exact CC.out _ _) | (go_at_call_of 19 a1; exact CM.out _ _) | (go_at_call 20; exact CR.out _ _)))
  refine wpQuiet_nil ?_
  intro _ hw'
  obtain ⟨⟨dq2, osq2⟩, hw''⟩ := hw'
  subst hw''
  go_wp2
  go_ret
  exact ⟨rfl, by rw [HN.out]; exact B4.trans ((below_regrown G dq2 osq2).mono (Nat.le_of_lt bx4.lt))⟩

set_option maxHeartbeats 1600000 in
theorem orders_eq (s t : ByteArray) (hts : t.size ≤ 1000) (a b L C P Q a1 b1 a2 b2 : Int) (i j : Nat) (hij : i = j)
    (hi : Hid (wrap64 ((IntKind.u64.wrap a).tmod ((t.size : Int) + 1)) = (i : Int))) (hj : Hid (wrap64 ((IntKind.u64.wrap b).tmod ((t.size : Int) + 1)) = (j : Int)))
    (h8 : Hid (∀ w, Calls Tryd.prog 8 #[.string s] w fun e w' => e = .returned (.string t) ∧ w' = w))
    (h9i : Hid (∀ w, Calls Tryd.prog 9 #[.string t, .int .i64 i] w fun e w' => e = .returned (.tuple #[.agg #[.int .i64 a1, .int .i64 b1], .int .i64 0]) ∧ Below w.heap.size w w'))
    (h9j : Hid (∀ w, Calls Tryd.prog 9 #[.string t, .int .i64 j] w fun e w' => e = .returned (.tuple #[.agg #[.int .i64 a2, .int .i64 b2], .int .i64 0]) ∧ Below w.heap.size w w'))
    (h19 : Hid (∀ w, Calls Tryd.prog 19 #[.agg #[.int .i64 a1, .int .i64 b1], .agg #[.int .i64 a2, .int .i64 b2]] w fun e w' => e = .returned (.int .i64 (0)) ∧ Below w.heap.size w w'))
    (w : World) (hL : Laid w) :
    Calls Tryd.prog 5 #[.string s, .int .i64 a, .int .i64 b, .agg #[.int .i64 L, .int .i64 C], .agg #[.int .i64 P, .int .i64 Q]] w fun r w' => r = .returned (.bool true) ∧ Below w.heap.size w w' := by
  obtain ⟨N, hN⟩ : ∃ N, w.heap.size = N := ⟨_, rfl⟩
  have HN : Hid (w.heap.size = N) := hN
  subst hij

  go_enter Tryd.func5, Tryd.ntmps5
  go_wp2_with (go_at_call 8; refine (h8.out _).mono ?_; rintro e w' ⟨rfl, rfl⟩)
  go_quiet (fail)
  rw [hi.out, hj.out]
  generalize hW : ((w.alloc (.cells #[.int .i64 L, .int .i64 C] 23)).alloc (.cells #[.int .i64 P, .int .i64 Q] 23)).drewN nq = W
  have bx : Blk W N 23 #[.int .i64 L, .int .i64 C] := by rw [← hW]; exact (Blk.new' w N 23 _ hN).alloc _
  have byy : Blk W (N + 1) 23 #[.int .i64 P, .int .i64 Q] := by rw [← hW]; exact Blk.new' _ _ 23 _ (by simp [hN])
  have B0 : Below N w W := by rw [← hW]; exact below_drewN (((Below.refl N w).alloc (by simp [hN]) _).alloc (by simp [hN]) _) nq
  clear hW hN
  go_wp2_with fail
  refine (h9i.out _).mono ?_
  rintro e w1 ⟨rfl, hb1⟩
  have bx1 := bx.below hb1 bx.lt
  have by1 := byy.below hb1 byy.lt
  have B1 : Below N w w1 := B0.trans (hb1.mono (Nat.le_of_lt bx.lt))
  go_wp2_with fail
  obtain ⟨M, hM⟩ : ∃ M, w1.heap.size = M := ⟨_, rfl⟩
  rw [hM]
  have hNM : N + 1 < M := by rw [← hM]; exact by1.lt
  generalize hW : w1.alloc (.cells #[.int .i64 a1, .int .i64 b1] 25) = W2
  have m2 : Blk W2 M 25 #[.int .i64 a1, .int .i64 b1] := by rw [← hW]; exact Blk.new' w1 M 25 _ hM
  have bx2 : Blk W2 N 23 #[.int .i64 L, .int .i64 C] := by rw [← hW]; exact bx1.alloc _
  have by2 : Blk W2 (N + 1) 23 #[.int .i64 P, .int .i64 Q] := by rw [← hW]; exact by1.alloc _
  have B2 : Below N w W2 := by rw [← hW]; exact B1.alloc (by omega) _
  clear hW hM
  refine (h9j.out _).mono ?_
  rintro e w3 ⟨rfl, hb3⟩
  have m3 := m2.below hb3 m2.lt
  have bx3 := bx2.below hb3 bx2.lt
  have by3 := by2.below hb3 by2.lt
  have B3 : Below N w w3 := B2.trans (hb3.mono (Nat.le_of_lt bx2.lt))
  go_wp2_with fail
  obtain ⟨M2, hM⟩ : ∃ M2, w3.heap.size = M2 := ⟨_, rfl⟩
  rw [hM]
  have hM2 : M < M2 := by rw [← hM]; exact m3.lt
  generalize hW : w3.alloc (.cells #[.int .i64 a2, .int .i64 b2] 25) = G
  have n4 : Blk G M2 25 #[.int .i64 a2, .int .i64 b2] := by rw [← hW]; exact Blk.new' w3 M2 25 _ hM
  have m4 : Blk G M 25 #[.int .i64 a1, .int .i64 b1] := by rw [← hW]; exact m3.alloc _
  have bx4 : Blk G N 23 #[.int .i64 L, .int .i64 C] := by rw [← hW]; exact bx3.alloc _
  have by4 : Blk G (N + 1) 23 #[.int .i64 P, .int .i64 Q] := by rw [← hW]; exact by3.alloc _
  have B4 : Below N w G := by rw [← hW]; exact B3.alloc (by omega) _
  have hLG : Laid G := hL.below (by rw [HN.out]; exact B4)
  clear hW hM
  have kbx40 : ∀ d os, (grow (redrawn G d) os).cell? ⟨N, 0, none⟩ = some (.int .i64 L) := fun d os => cell_regrown (bx4.cell 0) d os
  have kbx41 : ∀ d os, (grow (redrawn G d) os).cell? ⟨N, 1, none⟩ = some (.int .i64 C) := fun d os => cell_regrown (bx4.cell 1) d os
  have kby40 : ∀ d os, (grow (redrawn G d) os).cell? ⟨N + 1, 0, none⟩ = some (.int .i64 P) := fun d os => cell_regrown (by4.cell 0) d os
  have kby41 : ∀ d os, (grow (redrawn G d) os).cell? ⟨N + 1, 1, none⟩ = some (.int .i64 Q) := fun d os => cell_regrown (by4.cell 1) d os
  have km40 : ∀ d os, (grow (redrawn G d) os).cell? ⟨M, 0, none⟩ = some (.int .i64 a1) := fun d os => cell_regrown (m4.cell 0) d os
  have km41 : ∀ d os, (grow (redrawn G d) os).cell? ⟨M, 1, none⟩ = some (.int .i64 b1) := fun d os => cell_regrown (m4.cell 1) d os
  have kn40 : ∀ d os, (grow (redrawn G d) os).cell? ⟨M2, 0, none⟩ = some (.int .i64 a2) := fun d os => cell_regrown (n4.cell 0) d os
  have kn41 : ∀ d os, (grow (redrawn G d) os).cell? ⟨M2, 1, none⟩ = some (.int .i64 b2) := fun d os => cell_regrown (n4.cell 1) d os
  have CK : Hid (∀ d os, Calls Tryd.prog 13 #[] (grow (redrawn G d) os) fun e w'' => e = .returned (.bool true) ∧ ∃ p : Regrown, w'' = grow (redrawn G p.d) p.os) := fun d os => Calls.regrown_of (known_calls _ (hLG.below (below_regrown G d os)))
  have CL : Hid (∀ d os, Calls Tryd.prog 11 #[.agg #[.int .i64 L, .int .i64 C]] (grow (redrawn G d) os) fun e w'' => e = .returned (.agg #[.int .i64 L, .int .i64 C]) ∧ ∃ p : Regrown, w'' = grow (redrawn G p.d) p.os) := fun d os => Calls.regrown_of (to_calls L C _)
  have CP : Hid (∀ d os, Calls Tryd.prog 11 #[.agg #[.int .i64 P, .int .i64 Q]] (grow (redrawn G d) os) fun e w'' => e = .returned (.agg #[.int .i64 P, .int .i64 Q]) ∧ ∃ p : Regrown, w'' = grow (redrawn G p.d) p.os) := fun d os => Calls.regrown_of (to_calls P Q _)
  have CC : Hid (∀ d os, Calls Tryd.prog 19 #[.agg #[.int .i64 L, .int .i64 C], .agg #[.int .i64 P, .int .i64 Q]] (grow (redrawn G d) os) fun e w'' => e = .returned (.int .i64 (cmpM L C P Q)) ∧ ∃ p : Regrown, w'' = grow (redrawn G p.d) p.os) := fun d os => Calls.regrown_of (Compare_calls L C P Q _)
  have CR : Hid (∀ d os, Calls Tryd.prog 20 #[.agg #[.int .i64 L, .int .i64 C], .agg #[.int .i64 P, .int .i64 Q]] (grow (redrawn G d) os) fun e w'' => e = .returned (.int .i64 (cmpM L C P Q)) ∧ ∃ p : Regrown, w'' = grow (redrawn G p.d) p.os) := fun d os => Calls.regrown_of (refCompare_calls L C P Q _)
  have CM : Hid (∀ d os, Calls Tryd.prog 19 #[.agg #[.int .i64 a1, .int .i64 b1], .agg #[.int .i64 a2, .int .i64 b2]] (grow (redrawn G d) os) fun e w'' => e = .returned (.int .i64 (0)) ∧ ∃ p : Regrown, w'' = grow (redrawn G p.d) p.os) := fun d os => Calls.regrown_of (h19.out _)
  refine wp_region_quiet_below (by kernel_rfl) (by kernel_rfl) ?_
  repeat (quiet_step (first | (go_at_call 13; exact CK.out _ _) | (go_at_call_of 11 L; exact CL.out _ _) | (go_at_call_of 11 P; exact CP.out _ _) | (go_at_call_of 19 L; exact CC.out _ _) | (go_at_call_of 19 a1; exact CM.out _ _) | (go_at_call 20; exact CR.out _ _)))
  refine wpQuiet_nil ?_
  intro _ hw'
  obtain ⟨⟨dq2, osq2⟩, hw''⟩ := hw'
  subst hw''
  go_wp2
  go_ret
  exact ⟨rfl, by rw [HN.out]; exact B4.trans ((below_regrown G dq2 osq2).mono (Nat.le_of_lt bx4.lt))⟩

set_option maxHeartbeats 1600000 in
theorem orders_gt (s t : ByteArray) (hts : t.size ≤ 1000) (a b L C P Q a1 b1 a2 b2 : Int) (i j : Nat) (hij : j < i)
    (hi : Hid (wrap64 ((IntKind.u64.wrap a).tmod ((t.size : Int) + 1)) = (i : Int))) (hj : Hid (wrap64 ((IntKind.u64.wrap b).tmod ((t.size : Int) + 1)) = (j : Int)))
    (h8 : Hid (∀ w, Calls Tryd.prog 8 #[.string s] w fun e w' => e = .returned (.string t) ∧ w' = w))
    (h9i : Hid (∀ w, Calls Tryd.prog 9 #[.string t, .int .i64 i] w fun e w' => e = .returned (.tuple #[.agg #[.int .i64 a1, .int .i64 b1], .int .i64 0]) ∧ Below w.heap.size w w'))
    (h9j : Hid (∀ w, Calls Tryd.prog 9 #[.string t, .int .i64 j] w fun e w' => e = .returned (.tuple #[.agg #[.int .i64 a2, .int .i64 b2], .int .i64 0]) ∧ Below w.heap.size w w'))
    (h19 : Hid (∀ w, Calls Tryd.prog 19 #[.agg #[.int .i64 a1, .int .i64 b1], .agg #[.int .i64 a2, .int .i64 b2]] w fun e w' => e = .returned (.int .i64 (1)) ∧ Below w.heap.size w w'))
    (w : World) (hL : Laid w) :
    Calls Tryd.prog 5 #[.string s, .int .i64 a, .int .i64 b, .agg #[.int .i64 L, .int .i64 C], .agg #[.int .i64 P, .int .i64 Q]] w fun r w' => r = .returned (.bool true) ∧ Below w.heap.size w w' := by
  obtain ⟨N, hN⟩ : ∃ N, w.heap.size = N := ⟨_, rfl⟩
  have HN : Hid (w.heap.size = N) := hN
  have e1 : decide ((i : Int) < (j : Int)) = false := by simp; omega
  have e2 : ((i : Int) == (j : Int)) = false := by simp; omega
  have e3 : decide (i < j) = false := by simp; omega
  have e4 : (i == j) = false := by simp; omega

  go_enter Tryd.func5, Tryd.ntmps5
  go_wp2_with (go_at_call 8; refine (h8.out _).mono ?_; rintro e w' ⟨rfl, rfl⟩)
  go_quiet (fail)
  rw [hi.out, hj.out]
  generalize hW : ((w.alloc (.cells #[.int .i64 L, .int .i64 C] 23)).alloc (.cells #[.int .i64 P, .int .i64 Q] 23)).drewN nq = W
  have bx : Blk W N 23 #[.int .i64 L, .int .i64 C] := by rw [← hW]; exact (Blk.new' w N 23 _ hN).alloc _
  have byy : Blk W (N + 1) 23 #[.int .i64 P, .int .i64 Q] := by rw [← hW]; exact Blk.new' _ _ 23 _ (by simp [hN])
  have B0 : Below N w W := by rw [← hW]; exact below_drewN (((Below.refl N w).alloc (by simp [hN]) _).alloc (by simp [hN]) _) nq
  clear hW hN
  go_wp2_with fail
  refine (h9i.out _).mono ?_
  rintro e w1 ⟨rfl, hb1⟩
  have bx1 := bx.below hb1 bx.lt
  have by1 := byy.below hb1 byy.lt
  have B1 : Below N w w1 := B0.trans (hb1.mono (Nat.le_of_lt bx.lt))
  go_wp2_with fail
  obtain ⟨M, hM⟩ : ∃ M, w1.heap.size = M := ⟨_, rfl⟩
  rw [hM]
  have hNM : N + 1 < M := by rw [← hM]; exact by1.lt
  generalize hW : w1.alloc (.cells #[.int .i64 a1, .int .i64 b1] 25) = W2
  have m2 : Blk W2 M 25 #[.int .i64 a1, .int .i64 b1] := by rw [← hW]; exact Blk.new' w1 M 25 _ hM
  have bx2 : Blk W2 N 23 #[.int .i64 L, .int .i64 C] := by rw [← hW]; exact bx1.alloc _
  have by2 : Blk W2 (N + 1) 23 #[.int .i64 P, .int .i64 Q] := by rw [← hW]; exact by1.alloc _
  have B2 : Below N w W2 := by rw [← hW]; exact B1.alloc (by omega) _
  clear hW hM
  refine (h9j.out _).mono ?_
  rintro e w3 ⟨rfl, hb3⟩
  have m3 := m2.below hb3 m2.lt
  have bx3 := bx2.below hb3 bx2.lt
  have by3 := by2.below hb3 by2.lt
  have B3 : Below N w w3 := B2.trans (hb3.mono (Nat.le_of_lt bx2.lt))
  go_wp2_with fail
  obtain ⟨M2, hM⟩ : ∃ M2, w3.heap.size = M2 := ⟨_, rfl⟩
  rw [hM]
  have hM2 : M < M2 := by rw [← hM]; exact m3.lt
  generalize hW : w3.alloc (.cells #[.int .i64 a2, .int .i64 b2] 25) = G
  have n4 : Blk G M2 25 #[.int .i64 a2, .int .i64 b2] := by rw [← hW]; exact Blk.new' w3 M2 25 _ hM
  have m4 : Blk G M 25 #[.int .i64 a1, .int .i64 b1] := by rw [← hW]; exact m3.alloc _
  have bx4 : Blk G N 23 #[.int .i64 L, .int .i64 C] := by rw [← hW]; exact bx3.alloc _
  have by4 : Blk G (N + 1) 23 #[.int .i64 P, .int .i64 Q] := by rw [← hW]; exact by3.alloc _
  have B4 : Below N w G := by rw [← hW]; exact B3.alloc (by omega) _
  have hLG : Laid G := hL.below (by rw [HN.out]; exact B4)
  clear hW hM
  have kbx40 : ∀ d os, (grow (redrawn G d) os).cell? ⟨N, 0, none⟩ = some (.int .i64 L) := fun d os => cell_regrown (bx4.cell 0) d os
  have kbx41 : ∀ d os, (grow (redrawn G d) os).cell? ⟨N, 1, none⟩ = some (.int .i64 C) := fun d os => cell_regrown (bx4.cell 1) d os
  have kby40 : ∀ d os, (grow (redrawn G d) os).cell? ⟨N + 1, 0, none⟩ = some (.int .i64 P) := fun d os => cell_regrown (by4.cell 0) d os
  have kby41 : ∀ d os, (grow (redrawn G d) os).cell? ⟨N + 1, 1, none⟩ = some (.int .i64 Q) := fun d os => cell_regrown (by4.cell 1) d os
  have km40 : ∀ d os, (grow (redrawn G d) os).cell? ⟨M, 0, none⟩ = some (.int .i64 a1) := fun d os => cell_regrown (m4.cell 0) d os
  have km41 : ∀ d os, (grow (redrawn G d) os).cell? ⟨M, 1, none⟩ = some (.int .i64 b1) := fun d os => cell_regrown (m4.cell 1) d os
  have kn40 : ∀ d os, (grow (redrawn G d) os).cell? ⟨M2, 0, none⟩ = some (.int .i64 a2) := fun d os => cell_regrown (n4.cell 0) d os
  have kn41 : ∀ d os, (grow (redrawn G d) os).cell? ⟨M2, 1, none⟩ = some (.int .i64 b2) := fun d os => cell_regrown (n4.cell 1) d os
  have CK : Hid (∀ d os, Calls Tryd.prog 13 #[] (grow (redrawn G d) os) fun e w'' => e = .returned (.bool true) ∧ ∃ p : Regrown, w'' = grow (redrawn G p.d) p.os) := fun d os => Calls.regrown_of (known_calls _ (hLG.below (below_regrown G d os)))
  have CL : Hid (∀ d os, Calls Tryd.prog 11 #[.agg #[.int .i64 L, .int .i64 C]] (grow (redrawn G d) os) fun e w'' => e = .returned (.agg #[.int .i64 L, .int .i64 C]) ∧ ∃ p : Regrown, w'' = grow (redrawn G p.d) p.os) := fun d os => Calls.regrown_of (to_calls L C _)
  have CP : Hid (∀ d os, Calls Tryd.prog 11 #[.agg #[.int .i64 P, .int .i64 Q]] (grow (redrawn G d) os) fun e w'' => e = .returned (.agg #[.int .i64 P, .int .i64 Q]) ∧ ∃ p : Regrown, w'' = grow (redrawn G p.d) p.os) := fun d os => Calls.regrown_of (to_calls P Q _)
  have CC : Hid (∀ d os, Calls Tryd.prog 19 #[.agg #[.int .i64 L, .int .i64 C], .agg #[.int .i64 P, .int .i64 Q]] (grow (redrawn G d) os) fun e w'' => e = .returned (.int .i64 (cmpM L C P Q)) ∧ ∃ p : Regrown, w'' = grow (redrawn G p.d) p.os) := fun d os => Calls.regrown_of (Compare_calls L C P Q _)
  have CR : Hid (∀ d os, Calls Tryd.prog 20 #[.agg #[.int .i64 L, .int .i64 C], .agg #[.int .i64 P, .int .i64 Q]] (grow (redrawn G d) os) fun e w'' => e = .returned (.int .i64 (cmpM L C P Q)) ∧ ∃ p : Regrown, w'' = grow (redrawn G p.d) p.os) := fun d os => Calls.regrown_of (refCompare_calls L C P Q _)
  have CM : Hid (∀ d os, Calls Tryd.prog 19 #[.agg #[.int .i64 a1, .int .i64 b1], .agg #[.int .i64 a2, .int .i64 b2]] (grow (redrawn G d) os) fun e w'' => e = .returned (.int .i64 (1)) ∧ ∃ p : Regrown, w'' = grow (redrawn G p.d) p.os) := fun d os => Calls.regrown_of (h19.out _)
  refine wp_region_quiet_below (by kernel_rfl) (by kernel_rfl) ?_
  repeat (quiet_step (first | (go_at_call 13; exact CK.out _ _) | (go_at_call_of 11 L; exact CL.out _ _) | (go_at_call_of 11 P; exact CP.out _ _) | (go_at_call_of 19 L; exact CC.out _ _) | (go_at_call_of 19 a1; exact CM.out _ _) | (go_at_call 20; exact CR.out _ _)))
  refine wpQuiet_nil ?_
  intro _ hw'
  obtain ⟨⟨dq2, osq2⟩, hw''⟩ := hw'
  subst hw''
  go_wp2
  go_ret
  exact ⟨rfl, by rw [HN.out]; exact B4.trans ((below_regrown G dq2 osq2).mono (Nat.le_of_lt bx4.lt))⟩

theorem pick (a : Int) (n : Nat) (hn : n ≤ 1000) : ∃ i : Nat, i ≤ n ∧ wrap64 ((IntKind.u64.wrap a).tmod ((n : Int) + 1)) = (i : Int) := by
  have h0 : 0 ≤ IntKind.u64.wrap a := by
    simp only [IntKind.wrap, IntKind.signed, IntKind.bits]
    simp
    omega
  generalize IntKind.u64.wrap a = u at h0
  rw [Int.tmod_eq_emod_of_nonneg h0]
  have h1 : 0 ≤ u % ((n : Int) + 1) := Int.emod_nonneg _ (by omega)
  have h2 : u % ((n : Int) + 1) < (n : Int) + 1 := Int.emod_lt_of_pos _ (by omega)
  refine ⟨(u % ((n : Int) + 1)).toNat, by omega, ?_⟩
  unfold wrap64
  omega

theorem cmpM_lt (a b : Nat × Nat) (h : Plain.ahead a b) : cmpM (a.1 : Int) (a.2 : Int) (b.1 : Int) (b.2 : Int) = -1 := by
  unfold cmpM Plain.ahead at *
  rw [if_pos (by omega)]
theorem cmpM_eq (a : Nat × Nat) : cmpM (a.1 : Int) (a.2 : Int) (a.1 : Int) (a.2 : Int) = 0 := by
  unfold cmpM
  rw [if_neg (by omega), if_pos (by omega)]
theorem cmpM_gt (a b : Nat × Nat) (h : Plain.ahead b a) : cmpM (a.1 : Int) (a.2 : Int) (b.1 : Int) (b.2 : Int) = 1 := by
  unfold cmpM Plain.ahead at *
  rw [if_neg (by omega), if_neg (by omega)]

theorem PlaceOrders_calls (s : ByteArray) (hs : s.size ≤ 4611686018427387904) (a b L C P Q : Int) (w : World) (hL : Laid w) :
    Calls Tryd.prog 5 #[.string s, .int .i64 a, .int .i64 b, .agg #[.int .i64 L, .int .i64 C], .agg #[.int .i64 P, .int .i64 Q]] w fun r w' => r = .returned (.bool true) ∧ Below w.heap.size w w' := by
  have hts := fewB_size s
  have h8 : Hid (∀ w, Calls Tryd.prog 8 #[.string s] w fun e w' => e = .returned (.string (fewB s)) ∧ w' = w) := fun w => few_calls s hs w
  generalize fewB s = t at *
  obtain ⟨i, hi, ei⟩ := pick a t.size hts
  obtain ⟨j, hj, ej⟩ := pick b t.size hts
  have h19 := fun w => Compare_calls ((markAt t i).1 : Int) ((markAt t i).2 : Int) ((markAt t j).1 : Int) ((markAt t j).2 : Int) w
  rcases Nat.lt_trichotomy i j with h | h | h
  · rw [cmpM_lt (markAt t i) (markAt t j) (mark_ahead t.data.toList i j h (by simpa using hj))] at h19
    exact orders_lt s t hts a b L C P Q _ _ _ _ i j h ei ej h8 (fun w => Of_calls t (by omega) i hi w) (fun w => Of_calls t (by omega) j hj w) h19 w hL
  · subst h
    rw [cmpM_eq] at h19
    exact orders_eq s t hts a b L C P Q _ _ _ _ i i rfl ei ej h8 (fun w => Of_calls t (by omega) i hi w) (fun w => Of_calls t (by omega) i hj w) h19 w hL
  · rw [cmpM_gt (markAt t i) (markAt t j) (mark_ahead t.data.toList j i h (by simpa using hi))] at h19
    exact orders_gt s t hts a b L C P Q _ _ _ _ i j h ei ej h8 (fun w => Of_calls t (by omega) i hi w) (fun w => Of_calls t (by omega) j hj w) h19 w hL

end Go.Proofs.YtjmpacenlmoldaaDoor
