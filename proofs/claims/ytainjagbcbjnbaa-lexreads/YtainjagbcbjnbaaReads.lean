/-
  The walk of the law LexReads: whatever the text and the calls, it answers true.
-/
import Derived.Test.YtainjagbcbjnbaaNew
import Derived.Test.YtainjagbcbjnbaaBackP
namespace Go.Proofs.Ytainjagbcbjnbaa
open Go Go.RowKit Go.Shelf Go.Sort Plain Lex

def cut3 (s : ByteArray) : ByteArray := s.extract 0 (min (s.size : Int) 300).toNat
theorem cut3_size (s : ByteArray) : (cut3 s).size ≤ 300 := by
  unfold cut3; rw [ByteArray.size_extract]; omega

theorem out_small (s : ByteArray) : ∀ t ∈ outT (run s false 0), t.text.size ≤ s.size ∧ t.pos ≤ s.size := by
  obtain ⟨hg, _⟩ := run_good s s.size 0 false (by omega) (Nat.zero_le _)
  intro t ht
  unfold outT at ht
  split at ht
  · have := (hg t ht).fits; omega
  · simp at ht

/-- Acts that came in: their kinds, their numbers, their texts. -/
structure Acts (w : World) (A o n : Nat) (kd nn : Nat → Int) (ta : Nat → Option Addr) (tn tc : Nat → Nat) (xs : Nat → Nat → ByteArray) : Prop where
  lt : A < w.heap.size
  c0 : ∀ k, k < n → w.cell? ⟨A, o + k * 3, none⟩ = some (.int .i64 (kd k))
  c1 : ∀ k, k < n → w.cell? ⟨A, o + k * 3 + 1, none⟩ = some (.int .i64 (nn k))
  c2 : ∀ k, k < n → w.cell? ⟨A, o + k * 3 + 2, none⟩ = some (.slice (ta k) (tn k) (tc k))
  cap : ∀ k, k < n → tn k ≤ tc k ∧ tc k ≤ 9223372036854775807
  nul : ∀ k, k < n → ta k = none → tn k = 0 ∧ tc k = 0
  strs : ∀ k, k < n → Strs w (ta k) (tn k) (xs k)

/-- Both readers, at one place. -/
structure RR (w : World) (N B1 R Q B : Nat) (v1 v2 : Value) (ts : List Tok) (s : ByteArray) (p : Nat) (V : World) : Prop where
  l : Rd V 90 46 R B1 v1 ts s p
  r : Rd V 55 59 Q B v2 ts s p
  b : Below N w V

theorem RR.below {w : World} {N B1 R Q B : Nat} {v1 v2 : Value} {ts : List Tok} {s : ByteArray} {p : Nat} {V V' : World} (h : RR w N B1 R Q B v1 v2 ts s p V) (hN : N ≤ R) (hb : Below V.heap.size V V') : RR w N B1 R Q B v1 v2 ts s p V' :=
  ⟨h.l.below hb, h.r.below hb, h.b.trans (hb.mono (Nat.le_trans hN (Nat.le_of_lt h.l.blk.lt)))⟩

set_option maxRecDepth 100000 in
set_option maxHeartbeats 6400000 in
theorem LexReads_calls (s0 : ByteArray) (_hs0 : s0.size ≤ 9223372036854775807) (a0 : Option Addr) (n cap : Nat) (_hnc : n ≤ cap) (_hcap : cap ≤ 9223372036854775807) (kd nn : Nat → Int) (ta : Nat → Option Addr) (tn tc : Nat → Nat) (xs : Nat → Nat → ByteArray)
    (w : World) (hacts : 0 < n → ∃ A o, a0 = some ⟨A, o, none⟩ ∧ Acts w A o n kd nn ta tn tc xs) :
    Calls Try.prog 7 #[.string s0, .slice a0 n cap] w fun r w' => r = .returned (.bool true) ∧ Below w.heap.size w w' := by
  obtain ⟨N, hN⟩ : ∃ N, w.heap.size = N := ⟨_, rfl⟩
  have HN : Hid (w.heap.size = N) := hN
  obtain ⟨s, hs⟩ : ∃ s, s = cut3 s0 := ⟨_, rfl⟩
  have hsz : s.size ≤ 300 := by rw [hs]; exact cut3_size s0
  have hsx : s0.extract 0 (min (s0.size : Int) 300).toNat = s := hs.symm
  have cS := Split_calls s (by omega)
  have cR := refSplit_calls s (by omega)
  have hlen := outT_len s
  have hsm := out_small s
  obtain ⟨c, l, q, wd, hF⟩ := outF_shape s (run s false 0).2
  rw [hF] at cS cR
  generalize outT (run s false 0) = ts at *
  have hsmall : ∀ t ∈ ts, t.text.size ≤ 300 ∧ t.pos ≤ s.size := fun t ht => ⟨by have := (hsm t ht).1; omega, (hsm t ht).2⟩
  have CS : Hid _ := cS
  have CR : Hid _ := cR
  have HAC : Hid _ := hacts
  have HSM : Hid _ := hsmall
  clear cS cR hF hs hacts hsm hsmall
  go_enter Try.func7, Try.ntmps7
  go_wp2_with fail
  refine (CS.out _).mono ?_
  rintro e w1 ⟨v1, rfl, hr1, hb1⟩
  rw [hN] at hb1 hr1
  clear hN
  obtain ⟨M, hM⟩ : ∃ M, w1.heap.size = M := ⟨_, rfl⟩
  have hNM : N ≤ M := by rw [← hM, ← HN.out]; exact hb1.size
  go_wp2_with fail
  generalize hW : w1.alloc (.cells #[.int .i64 c, .int .i64 l, .int .i64 q, .string wd] 27) = W
  have b0 : Blk W M 27 #[.int .i64 c, .int .i64 l, .int .i64 q, .string wd] := by rw [← hW]; exact Blk.new' w1 M 27 _ hM
  have hb2 : Below N w W := by rw [← hW]; exact hb1.alloc (by omega) _
  have hr2 : TRow W N 46 v1 ts := by rw [← hW]; exact hr1.alloc _
  clear hW hb1 hr1 hM
  refine (CR.out _).mono ?_
  rintro e w2 ⟨v2, rfl, hr3, hb3⟩
  have hMW : M < W.heap.size := b0.lt
  have c0 := b0.below hb3 b0.lt
  have hb4 : Below N w w2 := hb2.trans (hb3.mono (by omega))
  have hr4 := hr2.below hb3
  generalize W.heap.size = B at *
  clear hb2 hb3 b0 hr2
  obtain ⟨K, hK⟩ : ∃ K, w2.heap.size = K := ⟨_, rfl⟩
  have hMK : M < K := by rw [← hK]; exact c0.lt
  go_wp2_with fail
  generalize hW : w2.alloc (.cells #[.int .i64 c, .int .i64 l, .int .i64 q, .string wd] 33) = W3
  have d0 : Blk W3 M 27 #[.int .i64 c, .int .i64 l, .int .i64 q, .string wd] := by rw [← hW]; exact c0.alloc _
  have d1 : Blk W3 K 33 #[.int .i64 c, .int .i64 l, .int .i64 q, .string wd] := by rw [← hW]; exact Blk.new' w2 K 33 _ hK
  have hb5 : Below N w W3 := by rw [← hW]; exact hb4.alloc (by omega) _
  have r1 : TRow W3 N 46 v1 ts := by rw [← hW]; exact hr4.alloc _
  have r2 : TRow W3 B 59 v2 ts := by rw [← hW]; exact hr3.alloc _
  have hNW : N ≤ W3.heap.size := Nat.le_of_lt (Nat.lt_of_le_of_lt hNM d0.lt)
  clear hW hb4 hr3 hr4 c0 hK
  have k0 : ∀ d os, (grow (redrawn W3 d) os).cell? ⟨M, 0, none⟩ = some (.int .i64 c) := fun d os => cell_regrown (d0.cell 0) d os
  have k1 : ∀ d os, (grow (redrawn W3 d) os).cell? ⟨M, 1, none⟩ = some (.int .i64 l) := fun d os => cell_regrown (d0.cell 1) d os
  have k2 : ∀ d os, (grow (redrawn W3 d) os).cell? ⟨M, 2, none⟩ = some (.int .i64 q) := fun d os => cell_regrown (d0.cell 2) d os
  have k3 : ∀ d os, (grow (redrawn W3 d) os).cell? ⟨M, 3, none⟩ = some (.string wd) := fun d os => cell_regrown (d0.cell 3) d os
  have l0 : ∀ d os, (grow (redrawn W3 d) os).cell? ⟨K, 0, none⟩ = some (.int .i64 c) := fun d os => cell_regrown (d1.cell 0) d os
  have l1 : ∀ d os, (grow (redrawn W3 d) os).cell? ⟨K, 1, none⟩ = some (.int .i64 l) := fun d os => cell_regrown (d1.cell 1) d os
  have l2 : ∀ d os, (grow (redrawn W3 d) os).cell? ⟨K, 2, none⟩ = some (.int .i64 q) := fun d os => cell_regrown (d1.cell 2) d os
  have l3 : ∀ d os, (grow (redrawn W3 d) os).cell? ⟨K, 3, none⟩ = some (.string wd) := fun d os => cell_regrown (d1.cell 3) d os
  have CK : Hid (∀ d os, Calls Try.prog 10 #[] (grow (redrawn W3 d) os) fun e w'' => e = .returned (.bool true) ∧ ∃ p : Regrown, w'' = grow (redrawn W3 p.d) p.os) := fun d os => Calls.regrown_of (known_calls _)
  have CM : Hid (∀ d os, Calls Try.prog 11 #[v1, v2] (grow (redrawn W3 d) os) fun e w'' => e = .returned (.bool true) ∧ ∃ p : Regrown, w'' = grow (redrawn W3 p.d) p.os) := fun d os => Calls.regrown_of (same_calls ts v1 v2 N B (by omega) _ (r1.below (below_regrown W3 d os)) (r2.below (below_regrown W3 d os)))
  have CF : Hid (∀ d os, Calls Try.prog 12 #[.agg #[.int .i64 c, .int .i64 l, .int .i64 q, .string wd]] (grow (redrawn W3 d) os) fun e w'' => e = .returned (.agg #[.int .i64 c, .int .i64 l, .int .i64 q, .string wd]) ∧ ∃ p : Regrown, w'' = grow (redrawn W3 p.d) p.os) := fun d os => Calls.regrown_of (Fault_calls c l q wd _)
  refine wp_region_quiet_below (by kernel_rfl) (by kernel_rfl) ?_
  repeat (go_big_quiet_step (first | (go_at_call 10; exact CK.out _ _) | (go_at_call 11; exact CM.out _ _) | (go_at_call 12; exact CF.out _ _)))
  refine wpQuiet_nil ?_
  intro _ hw'
  obtain ⟨⟨dq, osq⟩, hw''⟩ := hw'
  subst hw''
  have g1 := below_regrown W3 dq osq
  have r3 := r1.below g1
  have r4 := r2.below g1
  have hb6 : Below N w (grow (redrawn W3 dq) osq) := hb5.trans (g1.mono hNW)
  generalize grow (redrawn W3 dq) osq = W4 at *
  have hNW4 : N ≤ W4.heap.size := Nat.le_trans hNW g1.size
  clear k0 k1 k2 k3 l0 l1 l2 l3 CK CM CF d0 d1 r1 r2 g1 hb5 hNW
  go_wp2_with fail
  refine (New_calls v1 ts s N (by omega) hsz HSM.out _ r3).mono ?_
  rintro e w5 ⟨R, v1', rfl, hR, hRd, hb7⟩
  have r5 := r4.below hb7
  obtain ⟨a2, cap2, rfl, hcap2, _⟩ := r5.shape
  have hv2R : (Value.slice a2 ts.length cap2).ownBlock ≠ some R := fun e => by have := (World.ownsRow.lt r4 R e).2; omega
  have hb8 : Below N w w5 := hb6.trans (hb7.mono hNW4)
  have hNR : N ≤ R := Nat.le_trans hNW4 hR
  generalize W4.heap.size = B1 at *
  clear r3 r4 hb6 hb7 hNW4
  obtain ⟨Q, hQ⟩ : ∃ Q, w5.heap.size = Q := ⟨_, rfl⟩
  have hRQ : R < Q := by rw [← hQ]; exact hRd.blk.lt
  have hv1Q : v1'.ownBlock ≠ some Q := fun e => by have := (World.ownsRow.lt hRd.row Q e).2; omega
  have hv2Q : (Value.slice a2 ts.length cap2).ownBlock ≠ some Q := fun e => by have := (World.ownsRow.lt r5 Q e).2; omega
  go_wp2_with fail
  generalize hW : w5.alloc (.cells #[.slice a2 ts.length cap2, .string s, .int .i64 0] 55) = W6
  have hRR : RR w N B1 R Q B v1' (.slice a2 ts.length cap2) ts s 0 W6 := by
    rw [← hW]
    exact ⟨hRd.alloc _, ⟨Blk.new' w5 Q 55 _ hQ, r5.alloc _, Nat.zero_le _, by omega, hsz, hv2Q, HSM.out⟩, hb8.alloc (by omega) _⟩
  clear hW hRd r5 hb8 hQ
  go_loopw [12] (fun i wr => ∃ (k p : Nat), k ≤ n ∧ k ≤ 60 ∧ i = .int .i64 k ∧ RR w N B1 R Q B v1' (.slice a2 ts.length cap2) ts s p wr)
    (fun i _ => 60 - (intOf i).toNat)
  case atStart => exact ⟨0, 0, Nat.zero_le _, Nat.zero_le _, rfl, hRR⟩
  case round =>
    clear hRR
    obtain ⟨k, p, hkn, hk60, rfl, hRR⟩ := hrel
    by_cases hlt : k < n ∧ k < 60
    · obtain ⟨hlt1, hlt2⟩ := hlt
      have f1 : decide ((k : Int) < (n : Int)) = true := by simp; omega
      have f2 : decide ((k : Int) < 60) = true := by simp; omega
      obtain ⟨A, o, rfl, hact⟩ := HAC.out (by omega)
      have hAN : A < N := by rw [← HN.out]; exact hact.lt
      have q0 := (hRR.b.cell (p := ⟨A, o + k * 3, none⟩) hAN).trans (hact.c0 k hlt1)
      have q1 := (hRR.b.cell (p := ⟨A, o + k * 3 + 1, none⟩) hAN).trans (hact.c1 k hlt1)
      have q2 := (hRR.b.cell (p := ⟨A, o + k * 3 + 2, none⟩) hAN).trans (hact.c2 k hlt1)
      have hcp := hact.cap k hlt1
      have hst := hact.strs k hlt1
      have hnl := hact.nul k hlt1
      clear hact
      have HST : Hid _ := hst
      have HNL : Hid _ := hnl
      clear hst hnl
      generalize kd k = ak at *
      generalize nn k = an at *
      generalize tn k = tl at *
      generalize tc k = tcp at *
      generalize xs k = x at *
      obtain ⟨M1, hM1⟩ : ∃ M1, wr.heap.size = M1 := ⟨_, rfl⟩
      have y1 : (0 : Int) ≤ (k : Int) := by omega
      have y3 : (k : Int) ≤ 60 := by omega
      have hK4 : 0 ≤ (IntKind.u64.wrap ak).tmod 4 ∧ (IntKind.u64.wrap ak).tmod 4 < 4 := by
        rw [IntKind.wrap_u64, Int.tmod_eq_emod_of_nonneg (Int.emod_nonneg _ (by omega))]; omega
      obtain ⟨m5, hm5e⟩ : ∃ m5, (min (tl : Int) 5).toNat = m5 := ⟨_, rfl⟩
      have hm5 : m5 ≤ 5 := by omega
      have hm5l : m5 ≤ tl := by omega
      have hm5c : m5 ≤ tcp := by omega
      obtain ⟨dz, hdz⟩ : ∃ d, decide (m5 = 0) = d := ⟨_, rfl⟩
      have HDZ : Hid (decide (m5 = 0) = dz) := hdz
      have hdz2 : ((m5 : Int) == 0) = dz := by rw [← hdz, Bool.eq_iff_iff]; simp
      have hdz3 : (m5 == 0) = dz := by rw [← hdz]; rfl
      clear hdz
      cases hta : ta k with
      | none =>
        obtain ⟨htl, htc⟩ := HNL.out hta
        rw [hta] at q2 HST
        subst htl
        subst htc
        obtain rfl : m5 = 0 := by omega
        have HS5 : Hid (Strs w none 0 x) := fun h => absurd h (by omega)
        obtain rfl : dz = true := by rw [← hdz3]; rfl
        clear hta HNL HST hm5e hm5l hdz2 hdz3
        obtain ⟨kk, hkk⟩ : ∃ kk, (IntKind.u64.wrap ak).tmod 4 = kk := ⟨_, rfl⟩
        rw [hkk] at hK4
        by_cases z0 : kk = 0
        · subst z0
          go_wp2_with fail
          generalize hV0 : wr.alloc (.cells #[.int .i64 ak, .int .i64 an, .slice none 0 0] 58) = V0
          have hRR0 : RR w N B1 R Q B v1' (.slice a2 ts.length cap2) ts s p V0 := by rw [← hV0]; exact hRR.below hNR ((Below.refl _ _).alloc (Nat.le_refl _) _)
          have hbx : Blk V0 M1 58 #[.int .i64 ak, .int .i64 an, .slice none 0 0] := by rw [← hV0]; exact Blk.new' wr M1 58 _ hM1
          have hS0 : Strs V0 none 0 x := (HS5.out).below (by rw [HN.out]; exact hRR0.b)
          clear hV0 hRR hM1 q0 q1 q2
          skip
          obtain ⟨t0, ht0⟩ : ∃ t0, pk ts s p 0 = t0 := ⟨_, rfl⟩
          have cN := fun u h => Next_calls R B1 v1' ts s p u h
          have cQ := fun u h => refNext_calls Q B (.slice a2 ts.length cap2) ts s p u h
          rw [ht0] at cN cQ
          have CN : Hid _ := cN
          have CQ : Hid _ := cQ
          clear cN cQ ht0 hbx
          refine (CN.out _ hRR0.l).mono ?_
          rintro e V1 ⟨rfl, hl1, ho1⟩
          have hr1 := hRR0.r.only ho1 (by simp; omega) (fun j hj => by rw [List.mem_singleton.1 hj]; exact hv2R)
          have hb1 : Below N w V1 := hRR0.b.trans (ho1.below (by have := hRR0.l.blk.lt; omega) (fun j hj => by rw [List.mem_singleton.1 hj]; exact hNR))
          have hS1 : Strs V1 none 0 x := (HS5.out).below (by rw [HN.out]; exact hb1)
          clear hRR0 hS0 ho1
          unfold agg
          go_wp2_with fail
          refine (of_calls t0.kind t0.text t0.pos _).mono ?_
          rintro e V2 ⟨rfl, hy2⟩
          have hl2 := hl1.below hy2
          have hr2 := hr1.below hy2
          have hb2 : Below N w V2 := hb1.trans (hy2.mono (by have := hl1.blk.lt; omega))
          clear hl1 hr1 hb1 hy2 hS1
          go_wp2_with fail
          refine (CQ.out _ hr2).mono ?_
          rintro e V3 ⟨rfl, hr3, ho3⟩
          have hl3 := hl2.only ho3 (by simp; omega) (fun j hj => by rw [List.mem_singleton.1 hj]; exact hv1Q)
          have hb3 : Below N w V3 := hb2.trans (ho3.below (by have := hl2.blk.lt; omega) (fun j hj => by rw [List.mem_singleton.1 hj]; omega))
          have hRR3 : RR w N B1 R Q B v1' (.slice a2 ts.length cap2) ts s (nx ts p) V3 := ⟨hl3, hr3, hb3⟩
          have hS3 : Strs V3 none 0 x := (HS5.out).below (by rw [HN.out]; exact hb3)
          clear hl2 hr2 hb2 hl3 hr3 hb3 ho3
          unfold agg
          have hmk : ∃ L C : Nat, markAt s (pk ts s (nx ts p) 0).pos = (L, C) := ⟨_, _, rfl⟩
          obtain ⟨L, C, hLC⟩ := hmk
          have cPl := fun u h => Place_calls R B1 v1' ts s (nx ts p) u h
          have cPr := fun u h => refPlace_calls Q B (.slice a2 ts.length cap2) ts s (nx ts p) u h
          rw [hLC] at cPl cPr
          simp only at cPl cPr
          have CPl : Hid _ := cPl
          have CPr : Hid _ := cPr
          clear cPl cPr hLC
          go_wp2_with fail
          refine (CPl.out _ hRR3.l).mono ?_
          rintro e V4 ⟨rfl, hy4⟩
          have hRR4 := hRR3.below hNR hy4
          have hS4 := hS3.below hy4
          clear hy4 hRR3 hS3
          obtain ⟨M4, hM4⟩ : ∃ M4, V4.heap.size = M4 := ⟨_, rfl⟩
          go_wp2_with fail
          generalize hV5 : V4.alloc (.cells #[.int .i64 L, .int .i64 C] 25) = V5
          have b5 : Blk V5 M4 25 #[.int .i64 L, .int .i64 C] := by rw [← hV5]; exact Blk.new' V4 M4 25 _ hM4
          have hRR5 : RR w N B1 R Q B v1' (.slice a2 ts.length cap2) ts s (nx ts p) V5 := by rw [← hV5]; exact hRR4.below hNR ((Below.refl _ _).alloc (Nat.le_refl _) _)
          have hS5 : Strs V5 none 0 x := by rw [← hV5]; exact hS4.below ((Below.refl _ _).alloc (Nat.le_refl _) _)
          clear hV5 hRR4 hS4 hM4
          have k0 : ∀ d os, (grow (redrawn V5 d) os).cell? ⟨M4, 0, none⟩ = some (.int .i64 L) := fun d os => cell_regrown (b5.cell 0) d os
          have k1 : ∀ d os, (grow (redrawn V5 d) os).cell? ⟨M4, 1, none⟩ = some (.int .i64 C) := fun d os => cell_regrown (b5.cell 1) d os
          have CA : Hid (∀ d os, Calls Try.prog 27 #[.pointer (some ⟨Q, 0, none⟩)] (grow (redrawn V5 d) os) fun e w'' => e = .returned (.agg #[.int .i64 L, .int .i64 C]) ∧ ∃ p : Regrown, w'' = grow (redrawn V5 p.d) p.os) := fun d os => Calls.regrown_of (CPr.out _ (hRR5.r.below (below_regrown V5 d os)))
          have CT : Hid (∀ d os, Calls Try.prog 24 #[.pointer none, .slice none 0 0] (grow (redrawn V5 d) os) fun e w'' => e = .returned (.bool true) ∧ ∃ p : Regrown, w'' = grow (redrawn V5 p.d) p.os) := fun d os => Calls.regrown_of (by have := Take_nil none 0 0 x hm5 hm5c _ (hS5.below (below_regrown V5 d os)); exact this)
          clear b5 hS5
          refine wp_region_quiet_below (by kernel_rfl) (by kernel_rfl) ?_
          repeat (go_big_quiet_step (first | (go_at_call 27; exact CA.out _ _) | (go_at_call 24; exact CT.out _ _)))
          refine wpQuiet_nil ?_
          intro _ hw'
          obtain ⟨⟨dq, osq⟩, hw''⟩ := hw'
          subst hw''
          have hRR6 := hRR5.below hNR (below_regrown V5 dq osq)
          generalize grow (redrawn V5 dq) osq = V6 at *
          clear k0 k1 CA CT hRR5
          go_wp2
          exact ⟨⟨k + 1, nx ts p, by omega, by omega, by go_num, hRR6⟩, by simp [intOf]; omega⟩

        · have e0 : (kk == 0) = false := by simpa using z0
          by_cases z1 : kk = 1
          · subst z1
            go_wp2_with fail
            generalize hV0 : wr.alloc (.cells #[.int .i64 ak, .int .i64 an, .slice none 0 0] 58) = V0
            have hRR0 : RR w N B1 R Q B v1' (.slice a2 ts.length cap2) ts s p V0 := by rw [← hV0]; exact hRR.below hNR ((Below.refl _ _).alloc (Nat.le_refl _) _)
            have hbx : Blk V0 M1 58 #[.int .i64 ak, .int .i64 an, .slice none 0 0] := by rw [← hV0]; exact Blk.new' wr M1 58 _ hM1
            have hS0 : Strs V0 none 0 x := (HS5.out).below (by rw [HN.out]; exact hRR0.b)
            clear hV0 hRR hM1 q0 q1 q2
            skip
            obtain ⟨t0, ht0⟩ : ∃ t0, pk ts s p an = t0 := ⟨_, rfl⟩
            have cN := fun u h => Peek_calls R B1 v1' ts s p an u h
            have cQ := fun u h => refPeek_calls Q B (.slice a2 ts.length cap2) ts s p an u h
            rw [ht0] at cN cQ
            have n1 : ∀ d os, (grow (redrawn V0 d) os).cell? ⟨M1, 1, none⟩ = some (.int .i64 an) := fun d os => cell_regrown (hbx.cell 1) d os
            have C1 : Hid (∀ d os, Calls Try.prog 22 #[.pointer (some ⟨R, 0, none⟩), .int .i64 an] (grow (redrawn V0 d) os) fun e w'' => e = .returned (.agg #[.int .i64 t0.kind, .string t0.text, .int .i64 t0.pos]) ∧ ∃ p : Regrown, w'' = grow (redrawn V0 p.d) p.os) := fun d os => Calls.regrown_of (cN _ (hRR0.l.below (below_regrown V0 d os)))
            have C2 : Hid (∀ d os, Calls Try.prog 19 #[.agg #[.int .i64 t0.kind, .string t0.text, .int .i64 t0.pos]] (grow (redrawn V0 d) os) fun e w'' => e = .returned (.agg #[.int .i64 t0.kind, .string t0.text, .int .i64 t0.pos]) ∧ ∃ p : Regrown, w'' = grow (redrawn V0 p.d) p.os) := fun d os => Calls.regrown_of (of_calls t0.kind t0.text t0.pos _)
            have C3 : Hid (∀ d os, Calls Try.prog 23 #[.pointer (some ⟨Q, 0, none⟩), .int .i64 an] (grow (redrawn V0 d) os) fun e w'' => e = .returned (.agg #[.int .i64 t0.kind, .string t0.text, .int .i64 t0.pos]) ∧ ∃ p : Regrown, w'' = grow (redrawn V0 p.d) p.os) := fun d os => Calls.regrown_of (cQ _ (hRR0.r.below (below_regrown V0 d os)))
            clear cN cQ ht0 hbx
            refine wp_region_quiet_below (by kernel_rfl) (by kernel_rfl) ?_
            repeat (go_big_quiet_step (first | (go_at_call 22; exact C1.out _ _) | (go_at_call 19; exact C2.out _ _) | (go_at_call 23; exact C3.out _ _)))
            refine wpQuiet_nil ?_
            intro _ hw'
            obtain ⟨⟨dp, osp⟩, hw''⟩ := hw'
            subst hw''
            have hRR3 := hRR0.below hNR (below_regrown V0 dp osp)
            have hS3 := hS0.below (below_regrown V0 dp osp)
            generalize grow (redrawn V0 dp) osp = V3 at *
            clear n1 C1 C2 C3 hRR0 hS0
            have hmk : ∃ L C : Nat, markAt s (pk ts s (p) 0).pos = (L, C) := ⟨_, _, rfl⟩
            obtain ⟨L, C, hLC⟩ := hmk
            have cPl := fun u h => Place_calls R B1 v1' ts s (p) u h
            have cPr := fun u h => refPlace_calls Q B (.slice a2 ts.length cap2) ts s (p) u h
            rw [hLC] at cPl cPr
            simp only at cPl cPr
            have CPl : Hid _ := cPl
            have CPr : Hid _ := cPr
            clear cPl cPr hLC
            go_wp2_with fail
            refine (CPl.out _ hRR3.l).mono ?_
            rintro e V4 ⟨rfl, hy4⟩
            have hRR4 := hRR3.below hNR hy4
            have hS4 := hS3.below hy4
            clear hy4 hRR3 hS3
            obtain ⟨M4, hM4⟩ : ∃ M4, V4.heap.size = M4 := ⟨_, rfl⟩
            go_wp2_with fail
            generalize hV5 : V4.alloc (.cells #[.int .i64 L, .int .i64 C] 25) = V5
            have b5 : Blk V5 M4 25 #[.int .i64 L, .int .i64 C] := by rw [← hV5]; exact Blk.new' V4 M4 25 _ hM4
            have hRR5 : RR w N B1 R Q B v1' (.slice a2 ts.length cap2) ts s (p) V5 := by rw [← hV5]; exact hRR4.below hNR ((Below.refl _ _).alloc (Nat.le_refl _) _)
            have hS5 : Strs V5 none 0 x := by rw [← hV5]; exact hS4.below ((Below.refl _ _).alloc (Nat.le_refl _) _)
            clear hV5 hRR4 hS4 hM4
            have k0 : ∀ d os, (grow (redrawn V5 d) os).cell? ⟨M4, 0, none⟩ = some (.int .i64 L) := fun d os => cell_regrown (b5.cell 0) d os
            have k1 : ∀ d os, (grow (redrawn V5 d) os).cell? ⟨M4, 1, none⟩ = some (.int .i64 C) := fun d os => cell_regrown (b5.cell 1) d os
            have CA : Hid (∀ d os, Calls Try.prog 27 #[.pointer (some ⟨Q, 0, none⟩)] (grow (redrawn V5 d) os) fun e w'' => e = .returned (.agg #[.int .i64 L, .int .i64 C]) ∧ ∃ p : Regrown, w'' = grow (redrawn V5 p.d) p.os) := fun d os => Calls.regrown_of (CPr.out _ (hRR5.r.below (below_regrown V5 d os)))
            have CT : Hid (∀ d os, Calls Try.prog 24 #[.pointer none, .slice none 0 0] (grow (redrawn V5 d) os) fun e w'' => e = .returned (.bool true) ∧ ∃ p : Regrown, w'' = grow (redrawn V5 p.d) p.os) := fun d os => Calls.regrown_of (by have := Take_nil none 0 0 x hm5 hm5c _ (hS5.below (below_regrown V5 d os)); exact this)
            clear b5 hS5
            refine wp_region_quiet_below (by kernel_rfl) (by kernel_rfl) ?_
            repeat (go_big_quiet_step (first | (go_at_call 27; exact CA.out _ _) | (go_at_call 24; exact CT.out _ _)))
            refine wpQuiet_nil ?_
            intro _ hw'
            obtain ⟨⟨dq, osq⟩, hw''⟩ := hw'
            subst hw''
            have hRR6 := hRR5.below hNR (below_regrown V5 dq osq)
            generalize grow (redrawn V5 dq) osq = V6 at *
            clear k0 k1 CA CT hRR5
            go_wp2
            exact ⟨⟨k + 1, p, by omega, by omega, by go_num, hRR6⟩, by simp [intOf]; omega⟩

          · have e1 : (kk == 1) = false := by simpa using z1
            by_cases z2 : kk = 2
            · subst z2
              go_wp2_with fail
              generalize hV0 : wr.alloc (.cells #[.int .i64 ak, .int .i64 an, .slice none 0 0] 58) = V0
              have hRR0 : RR w N B1 R Q B v1' (.slice a2 ts.length cap2) ts s p V0 := by rw [← hV0]; exact hRR.below hNR ((Below.refl _ _).alloc (Nat.le_refl _) _)
              have hbx : Blk V0 M1 58 #[.int .i64 ak, .int .i64 an, .slice none 0 0] := by rw [← hV0]; exact Blk.new' wr M1 58 _ hM1
              have hS0 : Strs V0 none 0 x := (HS5.out).below (by rw [HN.out]; exact hRR0.b)
              clear hV0 hRR hM1 q0 q1 q2
              skip
              have C1 : Hid _ := fun u h1 h2 => Take_calls R B1 v1' ts s p none 0 0 x hm5 hm5c u h1 h2
              have C2 : Hid _ := fun u h1 h2 => refTake_calls Q B (.slice a2 ts.length cap2) ts s p none 0 0 x hm5 hm5c u h1 h2
              clear hbx
              refine (C1.out _ hRR0.l hS0).mono ?_
              rintro e V1 ⟨r1, rfl, hte1, ho1⟩
              have hr1 := hRR0.r.only ho1 (by simp; omega) (fun j hj => by rw [List.mem_singleton.1 hj]; exact hv2R)
              have hb1 : Below N w V1 := hRR0.b.trans (ho1.below (by have := hRR0.l.blk.lt; omega) (fun j hj => by rw [List.mem_singleton.1 hj]; exact hNR))
              have hS1 : Strs V1 none 0 x := (HS5.out).below (by rw [HN.out]; exact hb1)
              have hNV1 : N ≤ V1.heap.size := by have := hr1.blk.lt; omega
              clear hRR0 hS0 ho1
              go_wp2_with fail
              refine (C2.out _ hr1 hS1).mono ?_
              rintro e V3 ⟨r2, rfl, hte2, ho3⟩
              have hb3 : Below N w V3 := hb1.trans (ho3.below hNV1 (fun j hj => by rw [List.mem_singleton.1 hj]; omega))
              have hS3 : Strs V3 none 0 x := (HS5.out).below (by rw [HN.out]; exact hb3)
              clear hr1 hb1 hS1 C1 C2
              rcases hte1 with ⟨rfl, htk, hl1⟩ | ⟨rfl, htk, hl1⟩
              · rcases hte2 with ⟨rfl, _, hr3⟩ | ⟨_, htk2, _⟩
                · have hl3 := hl1.only ho3 (by simp; omega) (fun j hj => by rw [List.mem_singleton.1 hj]; exact hv1Q)
                  have hRR3 : RR w N B1 R Q B v1' (.slice a2 ts.length cap2) ts s (p + 0) V3 := ⟨hl3, hr3, hb3⟩
                  clear hl1 hl3 hr3 hb3 ho3 htk
                  have hmk : ∃ L C : Nat, markAt s (pk ts s (p + 0) 0).pos = (L, C) := ⟨_, _, rfl⟩
                  obtain ⟨L, C, hLC⟩ := hmk
                  have cPl := fun u h => Place_calls R B1 v1' ts s (p + 0) u h
                  have cPr := fun u h => refPlace_calls Q B (.slice a2 ts.length cap2) ts s (p + 0) u h
                  rw [hLC] at cPl cPr
                  simp only at cPl cPr
                  have CPl : Hid _ := cPl
                  have CPr : Hid _ := cPr
                  clear cPl cPr hLC
                  go_wp2_with fail
                  refine (CPl.out _ hRR3.l).mono ?_
                  rintro e V4 ⟨rfl, hy4⟩
                  have hRR4 := hRR3.below hNR hy4
                  have hS4 := hS3.below hy4
                  clear hy4 hRR3 hS3
                  obtain ⟨M4, hM4⟩ : ∃ M4, V4.heap.size = M4 := ⟨_, rfl⟩
                  go_wp2_with fail
                  generalize hV5 : V4.alloc (.cells #[.int .i64 L, .int .i64 C] 25) = V5
                  have b5 : Blk V5 M4 25 #[.int .i64 L, .int .i64 C] := by rw [← hV5]; exact Blk.new' V4 M4 25 _ hM4
                  have hRR5 : RR w N B1 R Q B v1' (.slice a2 ts.length cap2) ts s (p + 0) V5 := by rw [← hV5]; exact hRR4.below hNR ((Below.refl _ _).alloc (Nat.le_refl _) _)
                  have hS5 : Strs V5 none 0 x := by rw [← hV5]; exact hS4.below ((Below.refl _ _).alloc (Nat.le_refl _) _)
                  clear hV5 hRR4 hS4 hM4
                  have k0 : ∀ d os, (grow (redrawn V5 d) os).cell? ⟨M4, 0, none⟩ = some (.int .i64 L) := fun d os => cell_regrown (b5.cell 0) d os
                  have k1 : ∀ d os, (grow (redrawn V5 d) os).cell? ⟨M4, 1, none⟩ = some (.int .i64 C) := fun d os => cell_regrown (b5.cell 1) d os
                  have CA : Hid (∀ d os, Calls Try.prog 27 #[.pointer (some ⟨Q, 0, none⟩)] (grow (redrawn V5 d) os) fun e w'' => e = .returned (.agg #[.int .i64 L, .int .i64 C]) ∧ ∃ p : Regrown, w'' = grow (redrawn V5 p.d) p.os) := fun d os => Calls.regrown_of (CPr.out _ (hRR5.r.below (below_regrown V5 d os)))
                  have CT : Hid (∀ d os, Calls Try.prog 24 #[.pointer none, .slice none 0 0] (grow (redrawn V5 d) os) fun e w'' => e = .returned (.bool true) ∧ ∃ p : Regrown, w'' = grow (redrawn V5 p.d) p.os) := fun d os => Calls.regrown_of (by have := Take_nil none 0 0 x hm5 hm5c _ (hS5.below (below_regrown V5 d os)); exact this)
                  clear b5 hS5
                  refine wp_region_quiet_below (by kernel_rfl) (by kernel_rfl) ?_
                  repeat (go_big_quiet_step (first | (go_at_call 27; exact CA.out _ _) | (go_at_call 24; exact CT.out _ _)))
                  refine wpQuiet_nil ?_
                  intro _ hw'
                  obtain ⟨⟨dq, osq⟩, hw''⟩ := hw'
                  subst hw''
                  have hRR6 := hRR5.below hNR (below_regrown V5 dq osq)
                  generalize grow (redrawn V5 dq) osq = V6 at *
                  clear k0 k1 CA CT hRR5
                  go_wp2
                  exact ⟨⟨k + 1, p + 0, by omega, by omega, by go_num, hRR6⟩, by simp [intOf]; omega⟩
                · exact absurd htk htk2
              · rcases hte2 with ⟨_, htk2, _⟩ | ⟨rfl, _, hr3⟩
                · exact absurd htk2 htk
                · have hl3 := hl1.only ho3 (by simp; omega) (fun j hj => by rw [List.mem_singleton.1 hj]; exact hv1Q)
                  have hRR3 : RR w N B1 R Q B v1' (.slice a2 ts.length cap2) ts s p V3 := ⟨hl3, hr3, hb3⟩
                  clear hl1 hl3 hr3 hb3 ho3 htk
                  have hmk : ∃ L C : Nat, markAt s (pk ts s (p) 0).pos = (L, C) := ⟨_, _, rfl⟩
                  obtain ⟨L, C, hLC⟩ := hmk
                  have cPl := fun u h => Place_calls R B1 v1' ts s (p) u h
                  have cPr := fun u h => refPlace_calls Q B (.slice a2 ts.length cap2) ts s (p) u h
                  rw [hLC] at cPl cPr
                  simp only at cPl cPr
                  have CPl : Hid _ := cPl
                  have CPr : Hid _ := cPr
                  clear cPl cPr hLC
                  go_wp2_with fail
                  refine (CPl.out _ hRR3.l).mono ?_
                  rintro e V4 ⟨rfl, hy4⟩
                  have hRR4 := hRR3.below hNR hy4
                  have hS4 := hS3.below hy4
                  clear hy4 hRR3 hS3
                  obtain ⟨M4, hM4⟩ : ∃ M4, V4.heap.size = M4 := ⟨_, rfl⟩
                  go_wp2_with fail
                  generalize hV5 : V4.alloc (.cells #[.int .i64 L, .int .i64 C] 25) = V5
                  have b5 : Blk V5 M4 25 #[.int .i64 L, .int .i64 C] := by rw [← hV5]; exact Blk.new' V4 M4 25 _ hM4
                  have hRR5 : RR w N B1 R Q B v1' (.slice a2 ts.length cap2) ts s (p) V5 := by rw [← hV5]; exact hRR4.below hNR ((Below.refl _ _).alloc (Nat.le_refl _) _)
                  have hS5 : Strs V5 none 0 x := by rw [← hV5]; exact hS4.below ((Below.refl _ _).alloc (Nat.le_refl _) _)
                  clear hV5 hRR4 hS4 hM4
                  have k0 : ∀ d os, (grow (redrawn V5 d) os).cell? ⟨M4, 0, none⟩ = some (.int .i64 L) := fun d os => cell_regrown (b5.cell 0) d os
                  have k1 : ∀ d os, (grow (redrawn V5 d) os).cell? ⟨M4, 1, none⟩ = some (.int .i64 C) := fun d os => cell_regrown (b5.cell 1) d os
                  have CA : Hid (∀ d os, Calls Try.prog 27 #[.pointer (some ⟨Q, 0, none⟩)] (grow (redrawn V5 d) os) fun e w'' => e = .returned (.agg #[.int .i64 L, .int .i64 C]) ∧ ∃ p : Regrown, w'' = grow (redrawn V5 p.d) p.os) := fun d os => Calls.regrown_of (CPr.out _ (hRR5.r.below (below_regrown V5 d os)))
                  have CT : Hid (∀ d os, Calls Try.prog 24 #[.pointer none, .slice none 0 0] (grow (redrawn V5 d) os) fun e w'' => e = .returned (.bool true) ∧ ∃ p : Regrown, w'' = grow (redrawn V5 p.d) p.os) := fun d os => Calls.regrown_of (by have := Take_nil none 0 0 x hm5 hm5c _ (hS5.below (below_regrown V5 d os)); exact this)
                  clear b5 hS5
                  refine wp_region_quiet_below (by kernel_rfl) (by kernel_rfl) ?_
                  repeat (go_big_quiet_step (first | (go_at_call 27; exact CA.out _ _) | (go_at_call 24; exact CT.out _ _)))
                  refine wpQuiet_nil ?_
                  intro _ hw'
                  obtain ⟨⟨dq, osq⟩, hw''⟩ := hw'
                  subst hw''
                  have hRR6 := hRR5.below hNR (below_regrown V5 dq osq)
                  generalize grow (redrawn V5 dq) osq = V6 at *
                  clear k0 k1 CA CT hRR5
                  go_wp2
                  exact ⟨⟨k + 1, p, by omega, by omega, by go_num, hRR6⟩, by simp [intOf]; omega⟩

            · have e2 : (kk == 2) = false := by simpa using z2
              go_wp2_with fail
              generalize hV0 : wr.alloc (.cells #[.int .i64 ak, .int .i64 an, .slice none 0 0] 58) = V0
              have hRR0 : RR w N B1 R Q B v1' (.slice a2 ts.length cap2) ts s p V0 := by rw [← hV0]; exact hRR.below hNR ((Below.refl _ _).alloc (Nat.le_refl _) _)
              have hbx : Blk V0 M1 58 #[.int .i64 ak, .int .i64 an, .slice none 0 0] := by rw [← hV0]; exact Blk.new' wr M1 58 _ hM1
              have hS0 : Strs V0 none 0 x := (HS5.out).below (by rw [HN.out]; exact hRR0.b)
              clear hV0 hRR hM1 q0 q1 q2
              skip
              obtain ⟨t0, ht0⟩ : ∃ t0, pk ts s p 0 = t0 := ⟨_, rfl⟩
              obtain ⟨L0, C0, hLC0⟩ : ∃ L C : Nat, markAt s t0.pos = (L, C) := ⟨_, _, rfl⟩
              have cF := fun u h => Fail_calls R B1 v1' ts s p an u h
              have cP := fun u h => refPlace_calls Q B (.slice a2 ts.length cap2) ts s p u h
              have cQ := fun u h => refPeek_calls Q B (.slice a2 ts.length cap2) ts s p 0 u h
              have hx1 := (hRR0.l.pk 0).1
              rw [ht0] at cF cP cQ hx1
              rw [hLC0] at cF cP
              simp only at cF cP
              have cH := refHead_calls t0.text (by omega)
              generalize headB t0.text = wd0 at *
              have CF : Hid _ := cF
              have n1 : V0.cell? ⟨M1, 1, none⟩ = some (.int .i64 an) := hbx.cell 1
              clear cF ht0 hLC0
              go_wp2_with fail
              refine (CF.out _ hRR0.l).mono ?_
              rintro e V1 ⟨rfl, hy1⟩
              have hRR1 := hRR0.below hNR hy1
              have hS1 := hS0.below hy1
              have hbx1 := hbx.below hy1 hbx.lt
              obtain ⟨M6, hM6⟩ : ∃ M6, V1.heap.size = M6 := ⟨_, rfl⟩
              clear hy1 hRR0 hS0 hbx n1
              go_wp2_with fail
              generalize hV2 : V1.alloc (.cells #[.int .i64 an, .int .i64 L0, .int .i64 C0, .string wd0] 27) = V2
              have b6 : Blk V2 M6 27 #[.int .i64 an, .int .i64 L0, .int .i64 C0, .string wd0] := by rw [← hV2]; exact Blk.new' V1 M6 27 _ hM6
              have hRR2 : RR w N B1 R Q B v1' (.slice a2 ts.length cap2) ts s p V2 := by rw [← hV2]; exact hRR1.below hNR ((Below.refl _ _).alloc (Nat.le_refl _) _)
              have hS2 : Strs V2 none 0 x := by rw [← hV2]; exact hS1.below ((Below.refl _ _).alloc (Nat.le_refl _) _)
              have hbx2 : Blk V2 M1 58 #[.int .i64 ak, .int .i64 an, .slice none 0 0] := by rw [← hV2]; exact hbx1.alloc _
              clear hV2 hRR1 hS1 hbx1 hM6
              have n1 : ∀ d os, (grow (redrawn V2 d) os).cell? ⟨M1, 1, none⟩ = some (.int .i64 an) := fun d os => cell_regrown (hbx2.cell 1) d os
              have m0 : ∀ d os, (grow (redrawn V2 d) os).cell? ⟨M6, 0, none⟩ = some (.int .i64 an) := fun d os => cell_regrown (b6.cell 0) d os
              have m1 : ∀ d os, (grow (redrawn V2 d) os).cell? ⟨M6, 1, none⟩ = some (.int .i64 L0) := fun d os => cell_regrown (b6.cell 1) d os
              have m2 : ∀ d os, (grow (redrawn V2 d) os).cell? ⟨M6, 2, none⟩ = some (.int .i64 C0) := fun d os => cell_regrown (b6.cell 2) d os
              have m3 : ∀ d os, (grow (redrawn V2 d) os).cell? ⟨M6, 3, none⟩ = some (.string wd0) := fun d os => cell_regrown (b6.cell 3) d os
              have fd := field59_1 t0.kind t0.text t0.pos
              have C1 : Hid (∀ d os, Calls Try.prog 12 #[.agg #[.int .i64 an, .int .i64 L0, .int .i64 C0, .string wd0]] (grow (redrawn V2 d) os) fun e w'' => e = .returned (.agg #[.int .i64 an, .int .i64 L0, .int .i64 C0, .string wd0]) ∧ ∃ p : Regrown, w'' = grow (redrawn V2 p.d) p.os) := fun d os => Calls.regrown_of (Fault_calls an L0 C0 wd0 _)
              have C2 : Hid (∀ d os, Calls Try.prog 27 #[.pointer (some ⟨Q, 0, none⟩)] (grow (redrawn V2 d) os) fun e w'' => e = .returned (.agg #[.int .i64 L0, .int .i64 C0]) ∧ ∃ p : Regrown, w'' = grow (redrawn V2 p.d) p.os) := fun d os => Calls.regrown_of (cP _ (hRR2.r.below (below_regrown V2 d os)))
              have C3 : Hid (∀ d os, Calls Try.prog 23 #[.pointer (some ⟨Q, 0, none⟩), .int .i64 0] (grow (redrawn V2 d) os) fun e w'' => e = .returned (.agg #[.int .i64 t0.kind, .string t0.text, .int .i64 t0.pos]) ∧ ∃ p : Regrown, w'' = grow (redrawn V2 p.d) p.os) := fun d os => Calls.regrown_of (cQ _ (hRR2.r.below (below_regrown V2 d os)))
              have C4 : Hid (∀ d os, Calls Try.prog 28 #[.string t0.text] (grow (redrawn V2 d) os) fun e w'' => e = .returned (.string wd0) ∧ ∃ p : Regrown, w'' = grow (redrawn V2 p.d) p.os) := fun d os => Calls.regrown_of ((cH _).mono fun e w' ⟨h1, h2⟩ => ⟨h1, by rw [← h2]; exact Below.refl _ _⟩)
              clear cP cQ cH b6 hbx2
              refine wp_region_quiet_below (by kernel_rfl) (by kernel_rfl) ?_
              repeat (go_big_quiet_step (first | (go_at_call 12; exact C1.out _ _) | (go_at_call 27; exact C2.out _ _) | (go_at_call 23; exact C3.out _ _) | (go_at_call 28; exact C4.out _ _)))
              refine wpQuiet_nil ?_
              intro _ hw'
              obtain ⟨⟨dp, osp⟩, hw''⟩ := hw'
              subst hw''
              have hRR3 := hRR2.below hNR (below_regrown V2 dp osp)
              have hS3 := hS2.below (below_regrown V2 dp osp)
              generalize grow (redrawn V2 dp) osp = V3 at *
              clear n1 m0 m1 m2 m3 C1 C2 C3 C4 hRR2 hS2
              have hmk : ∃ L C : Nat, markAt s (pk ts s (p) 0).pos = (L, C) := ⟨_, _, rfl⟩
              obtain ⟨L, C, hLC⟩ := hmk
              have cPl := fun u h => Place_calls R B1 v1' ts s (p) u h
              have cPr := fun u h => refPlace_calls Q B (.slice a2 ts.length cap2) ts s (p) u h
              rw [hLC] at cPl cPr
              simp only at cPl cPr
              have CPl : Hid _ := cPl
              have CPr : Hid _ := cPr
              clear cPl cPr hLC
              go_wp2_with fail
              refine (CPl.out _ hRR3.l).mono ?_
              rintro e V4 ⟨rfl, hy4⟩
              have hRR4 := hRR3.below hNR hy4
              have hS4 := hS3.below hy4
              clear hy4 hRR3 hS3
              obtain ⟨M4, hM4⟩ : ∃ M4, V4.heap.size = M4 := ⟨_, rfl⟩
              go_wp2_with fail
              generalize hV5 : V4.alloc (.cells #[.int .i64 L, .int .i64 C] 25) = V5
              have b5 : Blk V5 M4 25 #[.int .i64 L, .int .i64 C] := by rw [← hV5]; exact Blk.new' V4 M4 25 _ hM4
              have hRR5 : RR w N B1 R Q B v1' (.slice a2 ts.length cap2) ts s (p) V5 := by rw [← hV5]; exact hRR4.below hNR ((Below.refl _ _).alloc (Nat.le_refl _) _)
              have hS5 : Strs V5 none 0 x := by rw [← hV5]; exact hS4.below ((Below.refl _ _).alloc (Nat.le_refl _) _)
              clear hV5 hRR4 hS4 hM4
              have k0 : ∀ d os, (grow (redrawn V5 d) os).cell? ⟨M4, 0, none⟩ = some (.int .i64 L) := fun d os => cell_regrown (b5.cell 0) d os
              have k1 : ∀ d os, (grow (redrawn V5 d) os).cell? ⟨M4, 1, none⟩ = some (.int .i64 C) := fun d os => cell_regrown (b5.cell 1) d os
              have CA : Hid (∀ d os, Calls Try.prog 27 #[.pointer (some ⟨Q, 0, none⟩)] (grow (redrawn V5 d) os) fun e w'' => e = .returned (.agg #[.int .i64 L, .int .i64 C]) ∧ ∃ p : Regrown, w'' = grow (redrawn V5 p.d) p.os) := fun d os => Calls.regrown_of (CPr.out _ (hRR5.r.below (below_regrown V5 d os)))
              have CT : Hid (∀ d os, Calls Try.prog 24 #[.pointer none, .slice none 0 0] (grow (redrawn V5 d) os) fun e w'' => e = .returned (.bool true) ∧ ∃ p : Regrown, w'' = grow (redrawn V5 p.d) p.os) := fun d os => Calls.regrown_of (by have := Take_nil none 0 0 x hm5 hm5c _ (hS5.below (below_regrown V5 d os)); exact this)
              clear b5 hS5
              refine wp_region_quiet_below (by kernel_rfl) (by kernel_rfl) ?_
              repeat (go_big_quiet_step (first | (go_at_call 27; exact CA.out _ _) | (go_at_call 24; exact CT.out _ _)))
              refine wpQuiet_nil ?_
              intro _ hw'
              obtain ⟨⟨dq, osq⟩, hw''⟩ := hw'
              subst hw''
              have hRR6 := hRR5.below hNR (below_regrown V5 dq osq)
              generalize grow (redrawn V5 dq) osq = V6 at *
              clear k0 k1 CA CT hRR5
              go_wp2
              exact ⟨⟨k + 1, p, by omega, by omega, by go_num, hRR6⟩, by simp [intOf]; omega⟩

      | some ad =>
        rw [hta] at q2 HST
        have HS5 : Hid (Strs w (some ad) m5 x) := fun h => by
          obtain ⟨A', o', e', hl', hc'⟩ := HST.out (by omega)
          exact ⟨A', o', e', hl', fun j hj => hc' j (by omega)⟩
        clear hta HNL HST
        obtain ⟨kk, hkk⟩ : ∃ kk, (IntKind.u64.wrap ak).tmod 4 = kk := ⟨_, rfl⟩
        rw [hkk] at hK4
        by_cases z0 : kk = 0
        · subst z0
          go_wp2_with fail
          generalize hV0 : wr.alloc (.cells #[.int .i64 ak, .int .i64 an, .slice (some ad) tl tcp] 58) = V0
          have hRR0 : RR w N B1 R Q B v1' (.slice a2 ts.length cap2) ts s p V0 := by rw [← hV0]; exact hRR.below hNR ((Below.refl _ _).alloc (Nat.le_refl _) _)
          have hbx : Blk V0 M1 58 #[.int .i64 ak, .int .i64 an, .slice (some ad) tl tcp] := by rw [← hV0]; exact Blk.new' wr M1 58 _ hM1
          have hS0 : Strs V0 (some ad) m5 x := (HS5.out).below (by rw [HN.out]; exact hRR0.b)
          clear hV0 hRR hM1 q0 q1 q2
          skip
          obtain ⟨t0, ht0⟩ : ∃ t0, pk ts s p 0 = t0 := ⟨_, rfl⟩
          have cN := fun u h => Next_calls R B1 v1' ts s p u h
          have cQ := fun u h => refNext_calls Q B (.slice a2 ts.length cap2) ts s p u h
          rw [ht0] at cN cQ
          have CN : Hid _ := cN
          have CQ : Hid _ := cQ
          clear cN cQ ht0 hbx
          refine (CN.out _ hRR0.l).mono ?_
          rintro e V1 ⟨rfl, hl1, ho1⟩
          have hr1 := hRR0.r.only ho1 (by simp; omega) (fun j hj => by rw [List.mem_singleton.1 hj]; exact hv2R)
          have hb1 : Below N w V1 := hRR0.b.trans (ho1.below (by have := hRR0.l.blk.lt; omega) (fun j hj => by rw [List.mem_singleton.1 hj]; exact hNR))
          have hS1 : Strs V1 (some ad) m5 x := (HS5.out).below (by rw [HN.out]; exact hb1)
          clear hRR0 hS0 ho1
          unfold agg
          go_wp2_with fail
          refine (of_calls t0.kind t0.text t0.pos _).mono ?_
          rintro e V2 ⟨rfl, hy2⟩
          have hl2 := hl1.below hy2
          have hr2 := hr1.below hy2
          have hb2 : Below N w V2 := hb1.trans (hy2.mono (by have := hl1.blk.lt; omega))
          clear hl1 hr1 hb1 hy2 hS1
          go_wp2_with fail
          refine (CQ.out _ hr2).mono ?_
          rintro e V3 ⟨rfl, hr3, ho3⟩
          have hl3 := hl2.only ho3 (by simp; omega) (fun j hj => by rw [List.mem_singleton.1 hj]; exact hv1Q)
          have hb3 : Below N w V3 := hb2.trans (ho3.below (by have := hl2.blk.lt; omega) (fun j hj => by rw [List.mem_singleton.1 hj]; omega))
          have hRR3 : RR w N B1 R Q B v1' (.slice a2 ts.length cap2) ts s (nx ts p) V3 := ⟨hl3, hr3, hb3⟩
          have hS3 : Strs V3 (some ad) m5 x := (HS5.out).below (by rw [HN.out]; exact hb3)
          clear hl2 hr2 hb2 hl3 hr3 hb3 ho3
          unfold agg
          have hmk : ∃ L C : Nat, markAt s (pk ts s (nx ts p) 0).pos = (L, C) := ⟨_, _, rfl⟩
          obtain ⟨L, C, hLC⟩ := hmk
          have cPl := fun u h => Place_calls R B1 v1' ts s (nx ts p) u h
          have cPr := fun u h => refPlace_calls Q B (.slice a2 ts.length cap2) ts s (nx ts p) u h
          rw [hLC] at cPl cPr
          simp only at cPl cPr
          have CPl : Hid _ := cPl
          have CPr : Hid _ := cPr
          clear cPl cPr hLC
          go_wp2_with fail
          refine (CPl.out _ hRR3.l).mono ?_
          rintro e V4 ⟨rfl, hy4⟩
          have hRR4 := hRR3.below hNR hy4
          have hS4 := hS3.below hy4
          clear hy4 hRR3 hS3
          obtain ⟨M4, hM4⟩ : ∃ M4, V4.heap.size = M4 := ⟨_, rfl⟩
          go_wp2_with fail
          generalize hV5 : V4.alloc (.cells #[.int .i64 L, .int .i64 C] 25) = V5
          have b5 : Blk V5 M4 25 #[.int .i64 L, .int .i64 C] := by rw [← hV5]; exact Blk.new' V4 M4 25 _ hM4
          have hRR5 : RR w N B1 R Q B v1' (.slice a2 ts.length cap2) ts s (nx ts p) V5 := by rw [← hV5]; exact hRR4.below hNR ((Below.refl _ _).alloc (Nat.le_refl _) _)
          have hS5 : Strs V5 (some ad) m5 x := by rw [← hV5]; exact hS4.below ((Below.refl _ _).alloc (Nat.le_refl _) _)
          clear hV5 hRR4 hS4 hM4
          have k0 : ∀ d os, (grow (redrawn V5 d) os).cell? ⟨M4, 0, none⟩ = some (.int .i64 L) := fun d os => cell_regrown (b5.cell 0) d os
          have k1 : ∀ d os, (grow (redrawn V5 d) os).cell? ⟨M4, 1, none⟩ = some (.int .i64 C) := fun d os => cell_regrown (b5.cell 1) d os
          have CA : Hid (∀ d os, Calls Try.prog 27 #[.pointer (some ⟨Q, 0, none⟩)] (grow (redrawn V5 d) os) fun e w'' => e = .returned (.agg #[.int .i64 L, .int .i64 C]) ∧ ∃ p : Regrown, w'' = grow (redrawn V5 p.d) p.os) := fun d os => Calls.regrown_of (CPr.out _ (hRR5.r.below (below_regrown V5 d os)))
          have CT : Hid (∀ d os, Calls Try.prog 24 #[.pointer none, .slice (some ad) m5 tcp] (grow (redrawn V5 d) os) fun e w'' => e = .returned (.bool dz) ∧ ∃ p : Regrown, w'' = grow (redrawn V5 p.d) p.os) := fun d os => Calls.regrown_of (by have := Take_nil (some ad) m5 tcp x hm5 hm5c _ (hS5.below (below_regrown V5 d os)); rw [HDZ.out] at this; exact this)
          clear b5 hS5
          refine wp_region_quiet_below (by kernel_rfl) (by kernel_rfl) ?_
          repeat (go_big_quiet_step (first | (go_at_call 27; exact CA.out _ _) | (go_at_call 24; exact CT.out _ _)))
          refine wpQuiet_nil ?_
          intro _ hw'
          obtain ⟨⟨dq, osq⟩, hw''⟩ := hw'
          subst hw''
          have hRR6 := hRR5.below hNR (below_regrown V5 dq osq)
          generalize grow (redrawn V5 dq) osq = V6 at *
          clear k0 k1 CA CT hRR5
          go_wp2
          exact ⟨⟨k + 1, nx ts p, by omega, by omega, by go_num, hRR6⟩, by simp [intOf]; omega⟩

        · have e0 : (kk == 0) = false := by simpa using z0
          by_cases z1 : kk = 1
          · subst z1
            go_wp2_with fail
            generalize hV0 : wr.alloc (.cells #[.int .i64 ak, .int .i64 an, .slice (some ad) tl tcp] 58) = V0
            have hRR0 : RR w N B1 R Q B v1' (.slice a2 ts.length cap2) ts s p V0 := by rw [← hV0]; exact hRR.below hNR ((Below.refl _ _).alloc (Nat.le_refl _) _)
            have hbx : Blk V0 M1 58 #[.int .i64 ak, .int .i64 an, .slice (some ad) tl tcp] := by rw [← hV0]; exact Blk.new' wr M1 58 _ hM1
            have hS0 : Strs V0 (some ad) m5 x := (HS5.out).below (by rw [HN.out]; exact hRR0.b)
            clear hV0 hRR hM1 q0 q1 q2
            skip
            obtain ⟨t0, ht0⟩ : ∃ t0, pk ts s p an = t0 := ⟨_, rfl⟩
            have cN := fun u h => Peek_calls R B1 v1' ts s p an u h
            have cQ := fun u h => refPeek_calls Q B (.slice a2 ts.length cap2) ts s p an u h
            rw [ht0] at cN cQ
            have n1 : ∀ d os, (grow (redrawn V0 d) os).cell? ⟨M1, 1, none⟩ = some (.int .i64 an) := fun d os => cell_regrown (hbx.cell 1) d os
            have C1 : Hid (∀ d os, Calls Try.prog 22 #[.pointer (some ⟨R, 0, none⟩), .int .i64 an] (grow (redrawn V0 d) os) fun e w'' => e = .returned (.agg #[.int .i64 t0.kind, .string t0.text, .int .i64 t0.pos]) ∧ ∃ p : Regrown, w'' = grow (redrawn V0 p.d) p.os) := fun d os => Calls.regrown_of (cN _ (hRR0.l.below (below_regrown V0 d os)))
            have C2 : Hid (∀ d os, Calls Try.prog 19 #[.agg #[.int .i64 t0.kind, .string t0.text, .int .i64 t0.pos]] (grow (redrawn V0 d) os) fun e w'' => e = .returned (.agg #[.int .i64 t0.kind, .string t0.text, .int .i64 t0.pos]) ∧ ∃ p : Regrown, w'' = grow (redrawn V0 p.d) p.os) := fun d os => Calls.regrown_of (of_calls t0.kind t0.text t0.pos _)
            have C3 : Hid (∀ d os, Calls Try.prog 23 #[.pointer (some ⟨Q, 0, none⟩), .int .i64 an] (grow (redrawn V0 d) os) fun e w'' => e = .returned (.agg #[.int .i64 t0.kind, .string t0.text, .int .i64 t0.pos]) ∧ ∃ p : Regrown, w'' = grow (redrawn V0 p.d) p.os) := fun d os => Calls.regrown_of (cQ _ (hRR0.r.below (below_regrown V0 d os)))
            clear cN cQ ht0 hbx
            refine wp_region_quiet_below (by kernel_rfl) (by kernel_rfl) ?_
            repeat (go_big_quiet_step (first | (go_at_call 22; exact C1.out _ _) | (go_at_call 19; exact C2.out _ _) | (go_at_call 23; exact C3.out _ _)))
            refine wpQuiet_nil ?_
            intro _ hw'
            obtain ⟨⟨dp, osp⟩, hw''⟩ := hw'
            subst hw''
            have hRR3 := hRR0.below hNR (below_regrown V0 dp osp)
            have hS3 := hS0.below (below_regrown V0 dp osp)
            generalize grow (redrawn V0 dp) osp = V3 at *
            clear n1 C1 C2 C3 hRR0 hS0
            have hmk : ∃ L C : Nat, markAt s (pk ts s (p) 0).pos = (L, C) := ⟨_, _, rfl⟩
            obtain ⟨L, C, hLC⟩ := hmk
            have cPl := fun u h => Place_calls R B1 v1' ts s (p) u h
            have cPr := fun u h => refPlace_calls Q B (.slice a2 ts.length cap2) ts s (p) u h
            rw [hLC] at cPl cPr
            simp only at cPl cPr
            have CPl : Hid _ := cPl
            have CPr : Hid _ := cPr
            clear cPl cPr hLC
            go_wp2_with fail
            refine (CPl.out _ hRR3.l).mono ?_
            rintro e V4 ⟨rfl, hy4⟩
            have hRR4 := hRR3.below hNR hy4
            have hS4 := hS3.below hy4
            clear hy4 hRR3 hS3
            obtain ⟨M4, hM4⟩ : ∃ M4, V4.heap.size = M4 := ⟨_, rfl⟩
            go_wp2_with fail
            generalize hV5 : V4.alloc (.cells #[.int .i64 L, .int .i64 C] 25) = V5
            have b5 : Blk V5 M4 25 #[.int .i64 L, .int .i64 C] := by rw [← hV5]; exact Blk.new' V4 M4 25 _ hM4
            have hRR5 : RR w N B1 R Q B v1' (.slice a2 ts.length cap2) ts s (p) V5 := by rw [← hV5]; exact hRR4.below hNR ((Below.refl _ _).alloc (Nat.le_refl _) _)
            have hS5 : Strs V5 (some ad) m5 x := by rw [← hV5]; exact hS4.below ((Below.refl _ _).alloc (Nat.le_refl _) _)
            clear hV5 hRR4 hS4 hM4
            have k0 : ∀ d os, (grow (redrawn V5 d) os).cell? ⟨M4, 0, none⟩ = some (.int .i64 L) := fun d os => cell_regrown (b5.cell 0) d os
            have k1 : ∀ d os, (grow (redrawn V5 d) os).cell? ⟨M4, 1, none⟩ = some (.int .i64 C) := fun d os => cell_regrown (b5.cell 1) d os
            have CA : Hid (∀ d os, Calls Try.prog 27 #[.pointer (some ⟨Q, 0, none⟩)] (grow (redrawn V5 d) os) fun e w'' => e = .returned (.agg #[.int .i64 L, .int .i64 C]) ∧ ∃ p : Regrown, w'' = grow (redrawn V5 p.d) p.os) := fun d os => Calls.regrown_of (CPr.out _ (hRR5.r.below (below_regrown V5 d os)))
            have CT : Hid (∀ d os, Calls Try.prog 24 #[.pointer none, .slice (some ad) m5 tcp] (grow (redrawn V5 d) os) fun e w'' => e = .returned (.bool dz) ∧ ∃ p : Regrown, w'' = grow (redrawn V5 p.d) p.os) := fun d os => Calls.regrown_of (by have := Take_nil (some ad) m5 tcp x hm5 hm5c _ (hS5.below (below_regrown V5 d os)); rw [HDZ.out] at this; exact this)
            clear b5 hS5
            refine wp_region_quiet_below (by kernel_rfl) (by kernel_rfl) ?_
            repeat (go_big_quiet_step (first | (go_at_call 27; exact CA.out _ _) | (go_at_call 24; exact CT.out _ _)))
            refine wpQuiet_nil ?_
            intro _ hw'
            obtain ⟨⟨dq, osq⟩, hw''⟩ := hw'
            subst hw''
            have hRR6 := hRR5.below hNR (below_regrown V5 dq osq)
            generalize grow (redrawn V5 dq) osq = V6 at *
            clear k0 k1 CA CT hRR5
            go_wp2
            exact ⟨⟨k + 1, p, by omega, by omega, by go_num, hRR6⟩, by simp [intOf]; omega⟩

          · have e1 : (kk == 1) = false := by simpa using z1
            by_cases z2 : kk = 2
            · subst z2
              go_wp2_with fail
              generalize hV0 : wr.alloc (.cells #[.int .i64 ak, .int .i64 an, .slice (some ad) tl tcp] 58) = V0
              have hRR0 : RR w N B1 R Q B v1' (.slice a2 ts.length cap2) ts s p V0 := by rw [← hV0]; exact hRR.below hNR ((Below.refl _ _).alloc (Nat.le_refl _) _)
              have hbx : Blk V0 M1 58 #[.int .i64 ak, .int .i64 an, .slice (some ad) tl tcp] := by rw [← hV0]; exact Blk.new' wr M1 58 _ hM1
              have hS0 : Strs V0 (some ad) m5 x := (HS5.out).below (by rw [HN.out]; exact hRR0.b)
              clear hV0 hRR hM1 q0 q1 q2
              skip
              have C1 : Hid _ := fun u h1 h2 => Take_calls R B1 v1' ts s p (some ad) m5 tcp x hm5 hm5c u h1 h2
              have C2 : Hid _ := fun u h1 h2 => refTake_calls Q B (.slice a2 ts.length cap2) ts s p (some ad) m5 tcp x hm5 hm5c u h1 h2
              clear hbx
              refine (C1.out _ hRR0.l hS0).mono ?_
              rintro e V1 ⟨r1, rfl, hte1, ho1⟩
              have hr1 := hRR0.r.only ho1 (by simp; omega) (fun j hj => by rw [List.mem_singleton.1 hj]; exact hv2R)
              have hb1 : Below N w V1 := hRR0.b.trans (ho1.below (by have := hRR0.l.blk.lt; omega) (fun j hj => by rw [List.mem_singleton.1 hj]; exact hNR))
              have hS1 : Strs V1 (some ad) m5 x := (HS5.out).below (by rw [HN.out]; exact hb1)
              have hNV1 : N ≤ V1.heap.size := by have := hr1.blk.lt; omega
              clear hRR0 hS0 ho1
              go_wp2_with fail
              refine (C2.out _ hr1 hS1).mono ?_
              rintro e V3 ⟨r2, rfl, hte2, ho3⟩
              have hb3 : Below N w V3 := hb1.trans (ho3.below hNV1 (fun j hj => by rw [List.mem_singleton.1 hj]; omega))
              have hS3 : Strs V3 (some ad) m5 x := (HS5.out).below (by rw [HN.out]; exact hb3)
              clear hr1 hb1 hS1 C1 C2
              rcases hte1 with ⟨rfl, htk, hl1⟩ | ⟨rfl, htk, hl1⟩
              · rcases hte2 with ⟨rfl, _, hr3⟩ | ⟨_, htk2, _⟩
                · have hl3 := hl1.only ho3 (by simp; omega) (fun j hj => by rw [List.mem_singleton.1 hj]; exact hv1Q)
                  have hRR3 : RR w N B1 R Q B v1' (.slice a2 ts.length cap2) ts s (p + m5) V3 := ⟨hl3, hr3, hb3⟩
                  clear hl1 hl3 hr3 hb3 ho3 htk
                  have hmk : ∃ L C : Nat, markAt s (pk ts s (p + m5) 0).pos = (L, C) := ⟨_, _, rfl⟩
                  obtain ⟨L, C, hLC⟩ := hmk
                  have cPl := fun u h => Place_calls R B1 v1' ts s (p + m5) u h
                  have cPr := fun u h => refPlace_calls Q B (.slice a2 ts.length cap2) ts s (p + m5) u h
                  rw [hLC] at cPl cPr
                  simp only at cPl cPr
                  have CPl : Hid _ := cPl
                  have CPr : Hid _ := cPr
                  clear cPl cPr hLC
                  go_wp2_with fail
                  refine (CPl.out _ hRR3.l).mono ?_
                  rintro e V4 ⟨rfl, hy4⟩
                  have hRR4 := hRR3.below hNR hy4
                  have hS4 := hS3.below hy4
                  clear hy4 hRR3 hS3
                  obtain ⟨M4, hM4⟩ : ∃ M4, V4.heap.size = M4 := ⟨_, rfl⟩
                  go_wp2_with fail
                  generalize hV5 : V4.alloc (.cells #[.int .i64 L, .int .i64 C] 25) = V5
                  have b5 : Blk V5 M4 25 #[.int .i64 L, .int .i64 C] := by rw [← hV5]; exact Blk.new' V4 M4 25 _ hM4
                  have hRR5 : RR w N B1 R Q B v1' (.slice a2 ts.length cap2) ts s (p + m5) V5 := by rw [← hV5]; exact hRR4.below hNR ((Below.refl _ _).alloc (Nat.le_refl _) _)
                  have hS5 : Strs V5 (some ad) m5 x := by rw [← hV5]; exact hS4.below ((Below.refl _ _).alloc (Nat.le_refl _) _)
                  clear hV5 hRR4 hS4 hM4
                  have k0 : ∀ d os, (grow (redrawn V5 d) os).cell? ⟨M4, 0, none⟩ = some (.int .i64 L) := fun d os => cell_regrown (b5.cell 0) d os
                  have k1 : ∀ d os, (grow (redrawn V5 d) os).cell? ⟨M4, 1, none⟩ = some (.int .i64 C) := fun d os => cell_regrown (b5.cell 1) d os
                  have CA : Hid (∀ d os, Calls Try.prog 27 #[.pointer (some ⟨Q, 0, none⟩)] (grow (redrawn V5 d) os) fun e w'' => e = .returned (.agg #[.int .i64 L, .int .i64 C]) ∧ ∃ p : Regrown, w'' = grow (redrawn V5 p.d) p.os) := fun d os => Calls.regrown_of (CPr.out _ (hRR5.r.below (below_regrown V5 d os)))
                  have CT : Hid (∀ d os, Calls Try.prog 24 #[.pointer none, .slice (some ad) m5 tcp] (grow (redrawn V5 d) os) fun e w'' => e = .returned (.bool dz) ∧ ∃ p : Regrown, w'' = grow (redrawn V5 p.d) p.os) := fun d os => Calls.regrown_of (by have := Take_nil (some ad) m5 tcp x hm5 hm5c _ (hS5.below (below_regrown V5 d os)); rw [HDZ.out] at this; exact this)
                  clear b5 hS5
                  refine wp_region_quiet_below (by kernel_rfl) (by kernel_rfl) ?_
                  repeat (go_big_quiet_step (first | (go_at_call 27; exact CA.out _ _) | (go_at_call 24; exact CT.out _ _)))
                  refine wpQuiet_nil ?_
                  intro _ hw'
                  obtain ⟨⟨dq, osq⟩, hw''⟩ := hw'
                  subst hw''
                  have hRR6 := hRR5.below hNR (below_regrown V5 dq osq)
                  generalize grow (redrawn V5 dq) osq = V6 at *
                  clear k0 k1 CA CT hRR5
                  go_wp2
                  exact ⟨⟨k + 1, p + m5, by omega, by omega, by go_num, hRR6⟩, by simp [intOf]; omega⟩
                · exact absurd htk htk2
              · rcases hte2 with ⟨_, htk2, _⟩ | ⟨rfl, _, hr3⟩
                · exact absurd htk2 htk
                · have hl3 := hl1.only ho3 (by simp; omega) (fun j hj => by rw [List.mem_singleton.1 hj]; exact hv1Q)
                  have hRR3 : RR w N B1 R Q B v1' (.slice a2 ts.length cap2) ts s p V3 := ⟨hl3, hr3, hb3⟩
                  clear hl1 hl3 hr3 hb3 ho3 htk
                  have hmk : ∃ L C : Nat, markAt s (pk ts s (p) 0).pos = (L, C) := ⟨_, _, rfl⟩
                  obtain ⟨L, C, hLC⟩ := hmk
                  have cPl := fun u h => Place_calls R B1 v1' ts s (p) u h
                  have cPr := fun u h => refPlace_calls Q B (.slice a2 ts.length cap2) ts s (p) u h
                  rw [hLC] at cPl cPr
                  simp only at cPl cPr
                  have CPl : Hid _ := cPl
                  have CPr : Hid _ := cPr
                  clear cPl cPr hLC
                  go_wp2_with fail
                  refine (CPl.out _ hRR3.l).mono ?_
                  rintro e V4 ⟨rfl, hy4⟩
                  have hRR4 := hRR3.below hNR hy4
                  have hS4 := hS3.below hy4
                  clear hy4 hRR3 hS3
                  obtain ⟨M4, hM4⟩ : ∃ M4, V4.heap.size = M4 := ⟨_, rfl⟩
                  go_wp2_with fail
                  generalize hV5 : V4.alloc (.cells #[.int .i64 L, .int .i64 C] 25) = V5
                  have b5 : Blk V5 M4 25 #[.int .i64 L, .int .i64 C] := by rw [← hV5]; exact Blk.new' V4 M4 25 _ hM4
                  have hRR5 : RR w N B1 R Q B v1' (.slice a2 ts.length cap2) ts s (p) V5 := by rw [← hV5]; exact hRR4.below hNR ((Below.refl _ _).alloc (Nat.le_refl _) _)
                  have hS5 : Strs V5 (some ad) m5 x := by rw [← hV5]; exact hS4.below ((Below.refl _ _).alloc (Nat.le_refl _) _)
                  clear hV5 hRR4 hS4 hM4
                  have k0 : ∀ d os, (grow (redrawn V5 d) os).cell? ⟨M4, 0, none⟩ = some (.int .i64 L) := fun d os => cell_regrown (b5.cell 0) d os
                  have k1 : ∀ d os, (grow (redrawn V5 d) os).cell? ⟨M4, 1, none⟩ = some (.int .i64 C) := fun d os => cell_regrown (b5.cell 1) d os
                  have CA : Hid (∀ d os, Calls Try.prog 27 #[.pointer (some ⟨Q, 0, none⟩)] (grow (redrawn V5 d) os) fun e w'' => e = .returned (.agg #[.int .i64 L, .int .i64 C]) ∧ ∃ p : Regrown, w'' = grow (redrawn V5 p.d) p.os) := fun d os => Calls.regrown_of (CPr.out _ (hRR5.r.below (below_regrown V5 d os)))
                  have CT : Hid (∀ d os, Calls Try.prog 24 #[.pointer none, .slice (some ad) m5 tcp] (grow (redrawn V5 d) os) fun e w'' => e = .returned (.bool dz) ∧ ∃ p : Regrown, w'' = grow (redrawn V5 p.d) p.os) := fun d os => Calls.regrown_of (by have := Take_nil (some ad) m5 tcp x hm5 hm5c _ (hS5.below (below_regrown V5 d os)); rw [HDZ.out] at this; exact this)
                  clear b5 hS5
                  refine wp_region_quiet_below (by kernel_rfl) (by kernel_rfl) ?_
                  repeat (go_big_quiet_step (first | (go_at_call 27; exact CA.out _ _) | (go_at_call 24; exact CT.out _ _)))
                  refine wpQuiet_nil ?_
                  intro _ hw'
                  obtain ⟨⟨dq, osq⟩, hw''⟩ := hw'
                  subst hw''
                  have hRR6 := hRR5.below hNR (below_regrown V5 dq osq)
                  generalize grow (redrawn V5 dq) osq = V6 at *
                  clear k0 k1 CA CT hRR5
                  go_wp2
                  exact ⟨⟨k + 1, p, by omega, by omega, by go_num, hRR6⟩, by simp [intOf]; omega⟩

            · have e2 : (kk == 2) = false := by simpa using z2
              go_wp2_with fail
              generalize hV0 : wr.alloc (.cells #[.int .i64 ak, .int .i64 an, .slice (some ad) tl tcp] 58) = V0
              have hRR0 : RR w N B1 R Q B v1' (.slice a2 ts.length cap2) ts s p V0 := by rw [← hV0]; exact hRR.below hNR ((Below.refl _ _).alloc (Nat.le_refl _) _)
              have hbx : Blk V0 M1 58 #[.int .i64 ak, .int .i64 an, .slice (some ad) tl tcp] := by rw [← hV0]; exact Blk.new' wr M1 58 _ hM1
              have hS0 : Strs V0 (some ad) m5 x := (HS5.out).below (by rw [HN.out]; exact hRR0.b)
              clear hV0 hRR hM1 q0 q1 q2
              skip
              obtain ⟨t0, ht0⟩ : ∃ t0, pk ts s p 0 = t0 := ⟨_, rfl⟩
              obtain ⟨L0, C0, hLC0⟩ : ∃ L C : Nat, markAt s t0.pos = (L, C) := ⟨_, _, rfl⟩
              have cF := fun u h => Fail_calls R B1 v1' ts s p an u h
              have cP := fun u h => refPlace_calls Q B (.slice a2 ts.length cap2) ts s p u h
              have cQ := fun u h => refPeek_calls Q B (.slice a2 ts.length cap2) ts s p 0 u h
              have hx1 := (hRR0.l.pk 0).1
              rw [ht0] at cF cP cQ hx1
              rw [hLC0] at cF cP
              simp only at cF cP
              have cH := refHead_calls t0.text (by omega)
              generalize headB t0.text = wd0 at *
              have CF : Hid _ := cF
              have n1 : V0.cell? ⟨M1, 1, none⟩ = some (.int .i64 an) := hbx.cell 1
              clear cF ht0 hLC0
              go_wp2_with fail
              refine (CF.out _ hRR0.l).mono ?_
              rintro e V1 ⟨rfl, hy1⟩
              have hRR1 := hRR0.below hNR hy1
              have hS1 := hS0.below hy1
              have hbx1 := hbx.below hy1 hbx.lt
              obtain ⟨M6, hM6⟩ : ∃ M6, V1.heap.size = M6 := ⟨_, rfl⟩
              clear hy1 hRR0 hS0 hbx n1
              go_wp2_with fail
              generalize hV2 : V1.alloc (.cells #[.int .i64 an, .int .i64 L0, .int .i64 C0, .string wd0] 27) = V2
              have b6 : Blk V2 M6 27 #[.int .i64 an, .int .i64 L0, .int .i64 C0, .string wd0] := by rw [← hV2]; exact Blk.new' V1 M6 27 _ hM6
              have hRR2 : RR w N B1 R Q B v1' (.slice a2 ts.length cap2) ts s p V2 := by rw [← hV2]; exact hRR1.below hNR ((Below.refl _ _).alloc (Nat.le_refl _) _)
              have hS2 : Strs V2 (some ad) m5 x := by rw [← hV2]; exact hS1.below ((Below.refl _ _).alloc (Nat.le_refl _) _)
              have hbx2 : Blk V2 M1 58 #[.int .i64 ak, .int .i64 an, .slice (some ad) tl tcp] := by rw [← hV2]; exact hbx1.alloc _
              clear hV2 hRR1 hS1 hbx1 hM6
              have n1 : ∀ d os, (grow (redrawn V2 d) os).cell? ⟨M1, 1, none⟩ = some (.int .i64 an) := fun d os => cell_regrown (hbx2.cell 1) d os
              have m0 : ∀ d os, (grow (redrawn V2 d) os).cell? ⟨M6, 0, none⟩ = some (.int .i64 an) := fun d os => cell_regrown (b6.cell 0) d os
              have m1 : ∀ d os, (grow (redrawn V2 d) os).cell? ⟨M6, 1, none⟩ = some (.int .i64 L0) := fun d os => cell_regrown (b6.cell 1) d os
              have m2 : ∀ d os, (grow (redrawn V2 d) os).cell? ⟨M6, 2, none⟩ = some (.int .i64 C0) := fun d os => cell_regrown (b6.cell 2) d os
              have m3 : ∀ d os, (grow (redrawn V2 d) os).cell? ⟨M6, 3, none⟩ = some (.string wd0) := fun d os => cell_regrown (b6.cell 3) d os
              have fd := field59_1 t0.kind t0.text t0.pos
              have C1 : Hid (∀ d os, Calls Try.prog 12 #[.agg #[.int .i64 an, .int .i64 L0, .int .i64 C0, .string wd0]] (grow (redrawn V2 d) os) fun e w'' => e = .returned (.agg #[.int .i64 an, .int .i64 L0, .int .i64 C0, .string wd0]) ∧ ∃ p : Regrown, w'' = grow (redrawn V2 p.d) p.os) := fun d os => Calls.regrown_of (Fault_calls an L0 C0 wd0 _)
              have C2 : Hid (∀ d os, Calls Try.prog 27 #[.pointer (some ⟨Q, 0, none⟩)] (grow (redrawn V2 d) os) fun e w'' => e = .returned (.agg #[.int .i64 L0, .int .i64 C0]) ∧ ∃ p : Regrown, w'' = grow (redrawn V2 p.d) p.os) := fun d os => Calls.regrown_of (cP _ (hRR2.r.below (below_regrown V2 d os)))
              have C3 : Hid (∀ d os, Calls Try.prog 23 #[.pointer (some ⟨Q, 0, none⟩), .int .i64 0] (grow (redrawn V2 d) os) fun e w'' => e = .returned (.agg #[.int .i64 t0.kind, .string t0.text, .int .i64 t0.pos]) ∧ ∃ p : Regrown, w'' = grow (redrawn V2 p.d) p.os) := fun d os => Calls.regrown_of (cQ _ (hRR2.r.below (below_regrown V2 d os)))
              have C4 : Hid (∀ d os, Calls Try.prog 28 #[.string t0.text] (grow (redrawn V2 d) os) fun e w'' => e = .returned (.string wd0) ∧ ∃ p : Regrown, w'' = grow (redrawn V2 p.d) p.os) := fun d os => Calls.regrown_of ((cH _).mono fun e w' ⟨h1, h2⟩ => ⟨h1, by rw [← h2]; exact Below.refl _ _⟩)
              clear cP cQ cH b6 hbx2
              refine wp_region_quiet_below (by kernel_rfl) (by kernel_rfl) ?_
              repeat (go_big_quiet_step (first | (go_at_call 12; exact C1.out _ _) | (go_at_call 27; exact C2.out _ _) | (go_at_call 23; exact C3.out _ _) | (go_at_call 28; exact C4.out _ _)))
              refine wpQuiet_nil ?_
              intro _ hw'
              obtain ⟨⟨dp, osp⟩, hw''⟩ := hw'
              subst hw''
              have hRR3 := hRR2.below hNR (below_regrown V2 dp osp)
              have hS3 := hS2.below (below_regrown V2 dp osp)
              generalize grow (redrawn V2 dp) osp = V3 at *
              clear n1 m0 m1 m2 m3 C1 C2 C3 C4 hRR2 hS2
              have hmk : ∃ L C : Nat, markAt s (pk ts s (p) 0).pos = (L, C) := ⟨_, _, rfl⟩
              obtain ⟨L, C, hLC⟩ := hmk
              have cPl := fun u h => Place_calls R B1 v1' ts s (p) u h
              have cPr := fun u h => refPlace_calls Q B (.slice a2 ts.length cap2) ts s (p) u h
              rw [hLC] at cPl cPr
              simp only at cPl cPr
              have CPl : Hid _ := cPl
              have CPr : Hid _ := cPr
              clear cPl cPr hLC
              go_wp2_with fail
              refine (CPl.out _ hRR3.l).mono ?_
              rintro e V4 ⟨rfl, hy4⟩
              have hRR4 := hRR3.below hNR hy4
              have hS4 := hS3.below hy4
              clear hy4 hRR3 hS3
              obtain ⟨M4, hM4⟩ : ∃ M4, V4.heap.size = M4 := ⟨_, rfl⟩
              go_wp2_with fail
              generalize hV5 : V4.alloc (.cells #[.int .i64 L, .int .i64 C] 25) = V5
              have b5 : Blk V5 M4 25 #[.int .i64 L, .int .i64 C] := by rw [← hV5]; exact Blk.new' V4 M4 25 _ hM4
              have hRR5 : RR w N B1 R Q B v1' (.slice a2 ts.length cap2) ts s (p) V5 := by rw [← hV5]; exact hRR4.below hNR ((Below.refl _ _).alloc (Nat.le_refl _) _)
              have hS5 : Strs V5 (some ad) m5 x := by rw [← hV5]; exact hS4.below ((Below.refl _ _).alloc (Nat.le_refl _) _)
              clear hV5 hRR4 hS4 hM4
              have k0 : ∀ d os, (grow (redrawn V5 d) os).cell? ⟨M4, 0, none⟩ = some (.int .i64 L) := fun d os => cell_regrown (b5.cell 0) d os
              have k1 : ∀ d os, (grow (redrawn V5 d) os).cell? ⟨M4, 1, none⟩ = some (.int .i64 C) := fun d os => cell_regrown (b5.cell 1) d os
              have CA : Hid (∀ d os, Calls Try.prog 27 #[.pointer (some ⟨Q, 0, none⟩)] (grow (redrawn V5 d) os) fun e w'' => e = .returned (.agg #[.int .i64 L, .int .i64 C]) ∧ ∃ p : Regrown, w'' = grow (redrawn V5 p.d) p.os) := fun d os => Calls.regrown_of (CPr.out _ (hRR5.r.below (below_regrown V5 d os)))
              have CT : Hid (∀ d os, Calls Try.prog 24 #[.pointer none, .slice (some ad) m5 tcp] (grow (redrawn V5 d) os) fun e w'' => e = .returned (.bool dz) ∧ ∃ p : Regrown, w'' = grow (redrawn V5 p.d) p.os) := fun d os => Calls.regrown_of (by have := Take_nil (some ad) m5 tcp x hm5 hm5c _ (hS5.below (below_regrown V5 d os)); rw [HDZ.out] at this; exact this)
              clear b5 hS5
              refine wp_region_quiet_below (by kernel_rfl) (by kernel_rfl) ?_
              repeat (go_big_quiet_step (first | (go_at_call 27; exact CA.out _ _) | (go_at_call 24; exact CT.out _ _)))
              refine wpQuiet_nil ?_
              intro _ hw'
              obtain ⟨⟨dq, osq⟩, hw''⟩ := hw'
              subst hw''
              have hRR6 := hRR5.below hNR (below_regrown V5 dq osq)
              generalize grow (redrawn V5 dq) osq = V6 at *
              clear k0 k1 CA CT hRR5
              go_wp2
              exact ⟨⟨k + 1, p, by omega, by omega, by go_num, hRR6⟩, by simp [intOf]; omega⟩

    · have hlt' : ¬ (k < n) ∨ ¬ (k < 60) := by omega
      have f12 : (decide ((k : Int) < (n : Int)) && decide ((k : Int) < 60)) = false := by
        rw [← Bool.not_eq_true]; simp; omega
      rcases (by omega : ¬ k < n ∨ (k < n ∧ ¬ k < 60)) with g1 | ⟨g1, g2⟩
      · have f1 : decide ((k : Int) < (n : Int)) = false := by simp; omega
        clear hlt hlt' f12
        go_wp2_with (first
          | (go_at_call 20; refine (Next_nil _).mono ?_; rintro e X1 ⟨rfl, hx1⟩)
          | (go_at_call 22; refine (Peek_nil 3 _).mono ?_; rintro e X2 ⟨rfl, hx2⟩)
          | (go_at_call 29; refine (Place_nil _).mono ?_; rintro e X3 ⟨rfl, hx3⟩)
          | (go_at_call 26; refine (Fail_nil 4 _).mono ?_; rintro e X4 ⟨rfl, hx4⟩))
        go_ret
        have hNr : N ≤ wr.heap.size := by have := hRR.l.blk.lt; omega
        have h2 := Nat.le_trans hNr hx1.size
        have h3 := Nat.le_trans h2 hx2.size
        have h4 := Nat.le_trans h3 hx3.size
        exact ⟨rfl, by rw [HN.out]; exact (((hRR.b.trans (hx1.mono hNr)).trans (hx2.mono h2)).trans (hx3.mono h3)).trans (hx4.mono h4)⟩

      · have f1 : decide ((k : Int) < (n : Int)) = true := by simp; omega
        have f2 : decide ((k : Int) < 60) = false := by simp; omega
        clear hlt hlt' f12
        go_wp2_with (first
          | (go_at_call 20; refine (Next_nil _).mono ?_; rintro e X1 ⟨rfl, hx1⟩)
          | (go_at_call 22; refine (Peek_nil 3 _).mono ?_; rintro e X2 ⟨rfl, hx2⟩)
          | (go_at_call 29; refine (Place_nil _).mono ?_; rintro e X3 ⟨rfl, hx3⟩)
          | (go_at_call 26; refine (Fail_nil 4 _).mono ?_; rintro e X4 ⟨rfl, hx4⟩))
        go_ret
        have hNr : N ≤ wr.heap.size := by have := hRR.l.blk.lt; omega
        have h2 := Nat.le_trans hNr hx1.size
        have h3 := Nat.le_trans h2 hx2.size
        have h4 := Nat.le_trans h3 hx3.size
        exact ⟨rfl, by rw [HN.out]; exact (((hRR.b.trans (hx1.mono hNr)).trans (hx2.mono h2)).trans (hx3.mono h3)).trans (hx4.mono h4)⟩


end Go.Proofs.Ytainjagbcbjnbaa
