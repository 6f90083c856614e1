/-
  The walk of the law LexSplits: whatever the text, it answers true.
-/
import Derived.Test.YtainjagbcbjnbaaRefSplit
import Derived.Test.YtainjagbcbjnbaaKnown
import Derived.Lib.QuietBelow
import Derived.Shelf.RegionOpenPlain
namespace Go.Proofs.Ytainjagbcbjnbaa
open Go Go.RowKit Go.Shelf Go.Sort Plain Lex

theorem outF_shape (s : ByteArray) (r : Option Bad) : ∃ (c l k : Int) (wd : ByteArray), outF s r = #[.int .i64 c, .int .i64 l, .int .i64 k, .string wd] := by
  cases r with
  | none => exact ⟨0, 0, 0, ⟨#[]⟩, rfl⟩
  | some b => exact ⟨_, _, _, _, rfl⟩

/-- There are no more tokens than bytes. -/
theorem run_len (s : ByteArray) : ∀ (n k : Nat) (rem : Bool), s.size - k ≤ n → k ≤ s.size → (run s rem k).1.length ≤ s.size - k := by
  intro n
  induction n with
  | zero =>
    intro k rem h1 h2
    obtain rfl : k = s.size := by omega
    rw [run_last]; simp
  | succ n ih =>
    intro k rem h1 h2
    obtain ⟨g1, g2⟩ := aft_le s rem k h2
    obtain ⟨f1, f2, _, _⟩ := fr_at s _ g2
    rw [run_eq s rem k h2]
    split
    · simp
    · split
      · simp
      · rename_i h4
        have := f2 h4
        have := ih (aft s rem k + (fr s (aft s rem k)).2) false (by omega) f1
        simp only [List.length_cons]
        omega
theorem outT_len (s : ByteArray) : (outT (run s false 0)).length ≤ s.size := by
  have := run_len s s.size 0 false (by omega) (Nat.zero_le _)
  unfold outT
  split
  · omega
  · simp

/-- Two regions' walks end so: what both Splits tell is the same. -/
def cut15 (s : ByteArray) : ByteArray := s.extract 0 (min (s.size : Int) 1500).toNat
theorem cut15_size (s : ByteArray) : (cut15 s).size ≤ 1500 := by
  unfold cut15; rw [ByteArray.size_extract]; omega

set_option maxRecDepth 100000 in
set_option maxHeartbeats 1600000 in
theorem LexSplits_calls (s0 : ByteArray) (_hs0 : s0.size ≤ 9223372036854775807) (w : World) :
    Calls Try.prog 3 #[.string s0] w fun r w' => r = .returned (.bool true) ∧ Below w.heap.size w w' := by
  obtain ⟨N, hN⟩ : ∃ N, w.heap.size = N := ⟨_, rfl⟩
  have HN : Hid (w.heap.size = N) := hN
  have cS := Split_calls (cut15 s0) (by have := cut15_size s0; omega)
  have cR := refSplit_calls (cut15 s0) (by have := cut15_size s0; omega)
  have hlen := outT_len (cut15 s0)
  have hsz := cut15_size s0
  obtain ⟨c, l, k, wd, hF⟩ := outF_shape (cut15 s0) (run (cut15 s0) false 0).2
  rw [hF] at cS cR
  generalize outT (run (cut15 s0) false 0) = ts at *
  have CS : Hid _ := cS
  have CR : Hid _ := cR
  clear cS cR hF
  go_enter Try.func3, Try.ntmps3
  go_wp2_with fail
  refine (CS.out _).mono ?_
  rintro e w1 ⟨v1, rfl, hr1, hb1⟩
  rw [hN] at hb1 hr1
  clear hN
  obtain ⟨M, hM⟩ : ∃ M, w1.heap.size = M := ⟨_, rfl⟩
  have hNM : N ≤ M := by rw [← hM, ← HN.out]; exact hb1.size
  go_wp2_with fail
  generalize hW : w1.alloc (.cells #[.int .i64 c, .int .i64 l, .int .i64 k, .string wd] 27) = W
  have b0 : Blk W M 27 #[.int .i64 c, .int .i64 l, .int .i64 k, .string wd] := by rw [← hW]; exact Blk.new' w1 M 27 _ hM
  have hb2 : Below N w W := by rw [← hW]; exact hb1.alloc (by omega) _
  have hr2 : TRow W N 46 v1 ts := by rw [← hW]; exact hr1.alloc _
  clear hW hb1 hr1 hM
  refine (CR.out _).mono ?_
  rintro e w2 ⟨v2, rfl, hr3, hb3⟩
  have hMW : M < W.heap.size := b0.lt
  have c0 := b0.below hb3 b0.lt
  have hb4 : Below N w w2 := hb2.trans (hb3.mono (by omega))
  have hr4 := hr2.below hb3
  generalize W.heap.size = B at *
  clear hb2 hb3 b0 hr2
  obtain ⟨K, hK⟩ : ∃ K, w2.heap.size = K := ⟨_, rfl⟩
  have hMK : M < K := by rw [← hK]; exact c0.lt
  go_wp2_with fail
  generalize hW : w2.alloc (.cells #[.int .i64 c, .int .i64 l, .int .i64 k, .string wd] 33) = W3
  have d0 : Blk W3 M 27 #[.int .i64 c, .int .i64 l, .int .i64 k, .string wd] := by rw [← hW]; exact c0.alloc _
  have d1 : Blk W3 K 33 #[.int .i64 c, .int .i64 l, .int .i64 k, .string wd] := by rw [← hW]; exact Blk.new' w2 K 33 _ hK
  have hb5 : Below N w W3 := by rw [← hW]; exact hb4.alloc (by omega) _
  have r1 : TRow W3 N 46 v1 ts := by rw [← hW]; exact hr4.alloc _
  have r2 : TRow W3 B 59 v2 ts := by rw [← hW]; exact hr3.alloc _
  have hNW : N ≤ W3.heap.size := Nat.le_of_lt (Nat.lt_of_le_of_lt hNM d0.lt)
  clear hW hb4 hr3 hr4 c0 hK
  have k0 : ∀ d os, (grow (redrawn W3 d) os).cell? ⟨M, 0, none⟩ = some (.int .i64 c) := fun d os => cell_regrown (d0.cell 0) d os
  have k1 : ∀ d os, (grow (redrawn W3 d) os).cell? ⟨M, 1, none⟩ = some (.int .i64 l) := fun d os => cell_regrown (d0.cell 1) d os
  have k2 : ∀ d os, (grow (redrawn W3 d) os).cell? ⟨M, 2, none⟩ = some (.int .i64 k) := fun d os => cell_regrown (d0.cell 2) d os
  have k3 : ∀ d os, (grow (redrawn W3 d) os).cell? ⟨M, 3, none⟩ = some (.string wd) := fun d os => cell_regrown (d0.cell 3) d os
  have l0 : ∀ d os, (grow (redrawn W3 d) os).cell? ⟨K, 0, none⟩ = some (.int .i64 c) := fun d os => cell_regrown (d1.cell 0) d os
  have l1 : ∀ d os, (grow (redrawn W3 d) os).cell? ⟨K, 1, none⟩ = some (.int .i64 l) := fun d os => cell_regrown (d1.cell 1) d os
  have l2 : ∀ d os, (grow (redrawn W3 d) os).cell? ⟨K, 2, none⟩ = some (.int .i64 k) := fun d os => cell_regrown (d1.cell 2) d os
  have l3 : ∀ d os, (grow (redrawn W3 d) os).cell? ⟨K, 3, none⟩ = some (.string wd) := fun d os => cell_regrown (d1.cell 3) d os
  have CK : Hid (∀ d os, Calls Try.prog 10 #[] (grow (redrawn W3 d) os) fun e w'' => e = .returned (.bool true) ∧ ∃ p : Regrown, w'' = grow (redrawn W3 p.d) p.os) := fun d os => Calls.regrown_of (known_calls _)
  have CM : Hid (∀ d os, Calls Try.prog 11 #[v1, v2] (grow (redrawn W3 d) os) fun e w'' => e = .returned (.bool true) ∧ ∃ p : Regrown, w'' = grow (redrawn W3 p.d) p.os) := fun d os => Calls.regrown_of (same_calls ts v1 v2 N B (by omega) _ (r1.below (below_regrown W3 d os)) (r2.below (below_regrown W3 d os)))
  have CF : Hid (∀ d os, Calls Try.prog 12 #[.agg #[.int .i64 c, .int .i64 l, .int .i64 k, .string wd]] (grow (redrawn W3 d) os) fun e w'' => e = .returned (.agg #[.int .i64 c, .int .i64 l, .int .i64 k, .string wd]) ∧ ∃ p : Regrown, w'' = grow (redrawn W3 p.d) p.os) := fun d os => Calls.regrown_of (Fault_calls c l k wd _)
  clear d0 d1 r1 r2
  refine wp_region_quiet_below (by kernel_rfl) (by kernel_rfl) ?_
  repeat (quiet_step (first | (go_at_call 10; exact CK.out _ _) | (go_at_call 11; exact CM.out _ _) | (go_at_call 12; exact CF.out _ _)))
  refine wpQuiet_nil ?_
  intro _ hw'
  obtain ⟨⟨dq, osq⟩, hw''⟩ := hw'
  subst hw''
  go_wp2
  go_ret
  exact ⟨rfl, by rw [HN.out]; exact hb5.trans ((below_regrown W3 dq osq).mono hNW)⟩

end Go.Proofs.Ytainjagbcbjnbaa
