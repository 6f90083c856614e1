/-
  The walk of the law LexLong: whatever the number and the tail, it answers true.
-/
import Derived.Test.YtainjagbcbjnbaaSplits
import Derived.Laws.BytesArg
import Derived.Laws.MakeOwn
namespace Go.Proofs.Ytainjagbcbjnbaa
open Go Go.RowKit Go.Shelf Go.Sort Plain Lex

theorem info5 : (Try.prog.info? 5).map (fun i => (i.zero, i.size, i.bytes)) = some (some (.int .u8 0), 1, 1) := by kernel_rfl

set_option maxRecDepth 100000 in
set_option maxHeartbeats 1600000 in
theorem LexLong_calls (n0 : Int) (tl : ByteArray) (_hs0 : tl.size ≤ 9223372036854775807) (w : World) :
    Calls Try.prog 4 #[.int .i64 n0, .string tl] w fun r w' => r = .returned (.bool true) ∧ Below w.heap.size w w' := by
  obtain ⟨N, hN⟩ : ∃ N, w.heap.size = N := ⟨_, rfl⟩
  have HN : Hid (w.heap.size = N) := hN
  obtain ⟨i0, hi, hz0, hz1, hz2⟩ := info_parts info5
  have hK : 0 ≤ (IntKind.u64.wrap n0).tmod 20 ∧ (IntKind.u64.wrap n0).tmod 20 < 20 := by
    rw [IntKind.wrap_u64, Int.tmod_eq_emod_of_nonneg (Int.emod_nonneg _ (by omega))]; omega
  go_enter Try.func4, Try.ntmps4
  go_wp2_with fail
  obtain ⟨m, hm⟩ : ∃ m : Nat, 19990 + (IntKind.u64.wrap n0).tmod 20 = (m : Int) := ⟨_, (Int.toNat_of_nonneg (by omega)).symm⟩
  have hm1 : m ≤ 20009 := by omega
  rw [hm]
  generalize (IntKind.u64.wrap n0).tmod 20 = tm at *
  clear hm hK
  obtain ⟨wm, hrun, hown, hgrow⟩ := run_make_full (P := Try.prog) w N 41 5 i0 (.int .u8 0) 1 Try.underlying41 hi hz0 hz1 .i64 .i64 m (by rw [hz2]; omega) (by unfold maxLen; omega) (by omega)
  rw [hrun]
  have hxs : (madeCells (Value.int .u8 0).cells (m * 1)).toList = List.replicate m (.int .u8 0) := by
    rw [Nat.mul_one]; exact toList_madeCells_one _ _
  rw [hxs] at hown
  have hbm : Below N w wm := (Below.refl N w).grown hgrow (by omega) (fun j hj => by cases hj)
  rw [hN] at hown ⊢
  clear hrun hgrow hxs hN
  go_wp2_with fail
  go_loopw [6] (fun i wr => ∃ k : Nat, k ≤ m ∧ i = .int .i64 k ∧ wr.ownsRow N 5 1 (.slice (some ⟨N, 0, none⟩) m m) m (List.replicate k (.int .u8 32) ++ List.replicate (m - k) (.int .u8 0)) ∧ Below N w wr)
    (fun i _ => m - (intOf i).toNat)
  case atStart => exact ⟨0, Nat.zero_le _, rfl, by simpa using hown, hbm⟩
  case round =>
    clear hown hbm
    obtain ⟨k, hk, rfl, hown, hbl⟩ := hrel
    by_cases hlt : k < m
    · have hst := (hown.stored k (.int .u8 32)).1
      have hset : (List.replicate k (Value.int .u8 32) ++ List.replicate (m - k) (Value.int .u8 0)).set k (Value.int .u8 32) = List.replicate (k + 1) (.int .u8 32) ++ List.replicate (m - (k + 1)) (.int .u8 0) := by
        rw [List.set_append_right _ _ (by simp)]
        obtain ⟨r, hr⟩ : ∃ r, m - k = r + 1 := ⟨m - k - 1, by omega⟩
        rw [hr, show m - (k + 1) = r by omega, List.replicate_succ, List.replicate_succ']
        simp
      rw [hset] at hst
      have HST : Hid _ := hst
      have q0 : wr.cell? ⟨N, k, none⟩ = some (.int .u8 0) := by
        rw [hown.cellAt k (by omega), List.getElem?_append_right (by simp), List.length_replicate, Nat.sub_self, List.getElem?_replicate, if_pos (by omega)]
      have f0 := hown.frozenAt k
      clear hst hset
      go_wp2
      exact ⟨⟨k + 1, by omega, by go_num, HST.out, bset hbl (Nat.le_refl N) _⟩, by simp [intOf]; omega⟩
    · obtain rfl : k = m := by omega
      have hown' : wr.ownsRow N 5 1 (.slice (some ⟨N, 0, none⟩) k k) k (List.replicate k (.int .u8 32)) := by simpa using hown
      have hconv := run_convert_bytes_arg (P := Try.prog) wr 41 5 Try.underlying41 Try.underlying5 N 0 k k (List.replicate k 32) (by simp) (fun i hi => by
        rw [Nat.zero_add, hown'.cellAt i (by omega)]
        simp [List.getD, hi]) 9 Try.underlying9
      have hsz : (strOfNums (List.replicate k 32)).size = k := by rw [strOfNums_size]; simp
      generalize strOfNums (List.replicate k 32) = bs at *
      have ht5 : (tl.extract 0 (min (tl.size : Int) 5).toNat).size ≤ 5 := by rw [ByteArray.size_extract]; omega
      have hss : (bs ++ tl.extract 0 (min (tl.size : Int) 5).toNat).size ≤ 20014 := by rw [ByteArray.size_append]; omega
      clear hown hown'
      go_wp2_with (first | rw [hconv])
      generalize bs ++ tl.extract 0 (min (tl.size : Int) 5).toNat = s at *
      clear hconv hsz
      obtain ⟨V, rfl⟩ : ∃ x, x = wr := ⟨_, rfl⟩
      have hNV : N ≤ V.heap.size := by have := hbl.size; rw [HN.out] at this; exact this
      by_cases hbig : 20000 < s.size
      · have hbd : decide ((20000 : Int) < (s.size : Int)) = true := by simp; omega
        refine (SplitLong_calls s hbig _).mono ?_
        rintro e w1 ⟨rfl, hb1⟩
        have hb2 : Below N w w1 := hbl.trans (hb1.mono hNV)
        have hN1 : N ≤ w1.heap.size := Nat.le_trans hNV hb1.size
        obtain ⟨M, hM⟩ : ∃ M, w1.heap.size = M := ⟨_, rfl⟩
        clear hb1
        go_wp2_with fail
        generalize hW : w1.alloc (.cells #[.int .i64 2, .int .i64 1, .int .i64 1, .string ⟨#[]⟩] 27) = W
        have b0 : Blk W M 27 #[.int .i64 2, .int .i64 1, .int .i64 1, .string ⟨#[]⟩] := by rw [← hW]; exact Blk.new' w1 M 27 _ hM
        have hb3 : Below N w W := by rw [← hW]; exact hb2.alloc (by omega) _
        have hNW : N ≤ W.heap.size := by rw [← hW]; simp; omega
        clear hW hb2 hM
        refine (known_calls _).mono ?_
        rintro e w2 ⟨rfl, hb4⟩
        have c0 := b0.below hb4 b0.lt
        have hb5 : Below N w w2 := hb3.trans (hb4.mono hNW)
        have q0 : w2.cell? ⟨M, 0, none⟩ = some (.int .i64 2) := c0.cell 0
        have q1 : w2.cell? ⟨M, 1, none⟩ = some (.int .i64 1) := c0.cell 1
        have q2 : w2.cell? ⟨M, 2, none⟩ = some (.int .i64 1) := c0.cell 2
        have q3 : w2.cell? ⟨M, 3, none⟩ = some (.string ⟨#[]⟩) := c0.cell 3
        go_wp2
        go_ret
        exact ⟨rfl, by rw [HN.out]; exact hb5⟩
      · have hbd : decide ((20000 : Int) < (s.size : Int)) = false := by simp; omega
        have cS := Split_calls s (by omega)
        have cR := refSplit_calls s (by omega)
        have hlen := outT_len s
        obtain ⟨c, l, q, wd, hF⟩ := outF_shape s (run s false 0).2
        rw [hF] at cS cR
        generalize outT (run s false 0) = ts at *
        have CS : Hid _ := cS
        have CR : Hid _ := cR
        clear cS cR hF
        refine (CS.out _).mono ?_
        rintro e w1 ⟨v1, rfl, hr1', hb1'⟩
        have hr1 : TRow w1 N 46 v1 ts := hr1'.mono hNV
        have hb1 : Below N w w1 := hbl.trans (hb1'.mono hNV)
        obtain ⟨M, hM⟩ : ∃ M, w1.heap.size = M := ⟨_, rfl⟩
        have hNM : N ≤ M := by rw [← hM]; exact Nat.le_trans hNV hb1'.size
        clear hr1' hb1' hbl hNV
        go_wp2_with fail
        generalize hW : w1.alloc (.cells #[.int .i64 c, .int .i64 l, .int .i64 q, .string wd] 27) = W
        have b0 : Blk W M 27 #[.int .i64 c, .int .i64 l, .int .i64 q, .string wd] := by rw [← hW]; exact Blk.new' w1 M 27 _ hM
        have hb2 : Below N w W := by rw [← hW]; exact hb1.alloc (by omega) _
        have hr2 : TRow W N 46 v1 ts := by rw [← hW]; exact hr1.alloc _
        clear hW hb1 hr1 hM
        refine (CR.out _).mono ?_
        rintro e w2 ⟨v2, rfl, hr3, hb3⟩
        have hMW : M < W.heap.size := b0.lt
        have c0 := b0.below hb3 b0.lt
        have hb4 : Below N w w2 := hb2.trans (hb3.mono (by omega))
        have hr4 := hr2.below hb3
        generalize W.heap.size = B at *
        clear hb2 hb3 b0 hr2
        obtain ⟨K, hK⟩ : ∃ K, w2.heap.size = K := ⟨_, rfl⟩
        have hMK : M < K := by rw [← hK]; exact c0.lt
        go_wp2_with fail
        generalize hW : w2.alloc (.cells #[.int .i64 c, .int .i64 l, .int .i64 q, .string wd] 33) = W3
        have d0 : Blk W3 M 27 #[.int .i64 c, .int .i64 l, .int .i64 q, .string wd] := by rw [← hW]; exact c0.alloc _
        have d1 : Blk W3 K 33 #[.int .i64 c, .int .i64 l, .int .i64 q, .string wd] := by rw [← hW]; exact Blk.new' w2 K 33 _ hK
        have hb5 : Below N w W3 := by rw [← hW]; exact hb4.alloc (by omega) _
        have r1 : TRow W3 N 46 v1 ts := by rw [← hW]; exact hr4.alloc _
        have r2 : TRow W3 B 59 v2 ts := by rw [← hW]; exact hr3.alloc _
        have hNW : N ≤ W3.heap.size := Nat.le_of_lt (Nat.lt_of_le_of_lt hNM d0.lt)
        clear hW hb4 hr3 hr4 c0 hK
        have k0 : ∀ d os, (grow (redrawn W3 d) os).cell? ⟨M, 0, none⟩ = some (.int .i64 c) := fun d os => cell_regrown (d0.cell 0) d os
        have k1 : ∀ d os, (grow (redrawn W3 d) os).cell? ⟨M, 1, none⟩ = some (.int .i64 l) := fun d os => cell_regrown (d0.cell 1) d os
        have k2 : ∀ d os, (grow (redrawn W3 d) os).cell? ⟨M, 2, none⟩ = some (.int .i64 q) := fun d os => cell_regrown (d0.cell 2) d os
        have k3 : ∀ d os, (grow (redrawn W3 d) os).cell? ⟨M, 3, none⟩ = some (.string wd) := fun d os => cell_regrown (d0.cell 3) d os
        have l0 : ∀ d os, (grow (redrawn W3 d) os).cell? ⟨K, 0, none⟩ = some (.int .i64 c) := fun d os => cell_regrown (d1.cell 0) d os
        have l1 : ∀ d os, (grow (redrawn W3 d) os).cell? ⟨K, 1, none⟩ = some (.int .i64 l) := fun d os => cell_regrown (d1.cell 1) d os
        have l2 : ∀ d os, (grow (redrawn W3 d) os).cell? ⟨K, 2, none⟩ = some (.int .i64 q) := fun d os => cell_regrown (d1.cell 2) d os
        have l3 : ∀ d os, (grow (redrawn W3 d) os).cell? ⟨K, 3, none⟩ = some (.string wd) := fun d os => cell_regrown (d1.cell 3) d os
        have CK : Hid (∀ d os, Calls Try.prog 10 #[] (grow (redrawn W3 d) os) fun e w'' => e = .returned (.bool true) ∧ ∃ p : Regrown, w'' = grow (redrawn W3 p.d) p.os) := fun d os => Calls.regrown_of (known_calls _)
        have CM : Hid (∀ d os, Calls Try.prog 11 #[v1, v2] (grow (redrawn W3 d) os) fun e w'' => e = .returned (.bool true) ∧ ∃ p : Regrown, w'' = grow (redrawn W3 p.d) p.os) := fun d os => Calls.regrown_of (same_calls ts v1 v2 N B (by omega) _ (r1.below (below_regrown W3 d os)) (r2.below (below_regrown W3 d os)))
        have CF : Hid (∀ d os, Calls Try.prog 12 #[.agg #[.int .i64 c, .int .i64 l, .int .i64 q, .string wd]] (grow (redrawn W3 d) os) fun e w'' => e = .returned (.agg #[.int .i64 c, .int .i64 l, .int .i64 q, .string wd]) ∧ ∃ p : Regrown, w'' = grow (redrawn W3 p.d) p.os) := fun d os => Calls.regrown_of (Fault_calls c l q wd _)
        clear d0 d1 r1 r2
        refine wp_region_quiet_below (by kernel_rfl) (by kernel_rfl) ?_
        repeat (quiet_step (first | (go_at_call 10; exact CK.out _ _) | (go_at_call 11; exact CM.out _ _) | (go_at_call 12; exact CF.out _ _)))
        refine wpQuiet_nil ?_
        intro _ hw'
        obtain ⟨⟨dq, osq⟩, hw''⟩ := hw'
        subst hw''
        go_wp2
        go_ret
        exact ⟨rfl, by rw [HN.out]; exact hb5.trans ((below_regrown W3 dq osq).mono hNW)⟩

end Go.Proofs.Ytainjagbcbjnbaa
