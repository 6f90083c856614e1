/-
  TermShifts comes out true: the walk.
-/
import Derived.Test.YtheokboggjnenaaShiftRef
import Derived.Test.YtheokboggjnenaaShiftR
import Derived.Test.YtheokboggjnenaaKnownT
import Derived.Test.YtheokboggjnenaaFewL
import Derived.Deep.RegionHeldLaw
namespace Go.Proofs.Ytheokboggjnenaa
open Go Go.RowKit Go.Sort

theorem shiftT_total (gy fr : Int) (t : Tm) : (shiftT gy fr t).total ≤ t.total := by
  unfold shiftT
  split
  · rw [shT_total]; exact Nat.le_refl _
  · exact t.total_pos

set_option maxRecDepth 100000 in
set_option maxHeartbeats 1600000 in
theorem Shifts_calls (t : Tm) (gy fr : Int) (sb sr : Value) (w : World) (hb : Holds w okT t.binds sb) (hr : HoldsT w okT t.args sr) (hrg : t.rng) (hgf : fits gy) (hff : fits fr) :
    Calls Try.prog 6 #[tmv sb t.kind t.idx sr, .int .i64 gy, .int .i64 fr] w fun e w' => e = .returned (.bool true) ∧ Below w.heap.size w w' := by
  obtain ⟨x1, x3, rfl, _⟩ := hb.shape
  obtain ⟨y1, y3, rfl, _⟩ := hr.shape
  obtain ⟨x2, hx2⟩ : ∃ n, t.binds.length = n := ⟨_, rfl⟩
  obtain ⟨y2, hy2⟩ : ∃ n, t.args.length = n := ⟨_, rfl⟩
  rw [hx2] at hb ⊢
  rw [hy2] at hr ⊢
  obtain ⟨N, hN⟩ : ∃ N, w.heap.size = N := ⟨_, rfl⟩
  rw [hN]
  obtain ⟨W0, hW0⟩ : ∃ W0, w.alloc (.cells #[.slice x1 x2 x3, .int .i64 t.kind, .int .i64 t.idx, .slice y1 y2 y3] 27) = W0 := ⟨_, rfl⟩
  have b0 : Blk W0 N 27 #[.slice x1 x2 x3, .int .i64 t.kind, .int .i64 t.idx, .slice y1 y2 y3] := by rw [← hW0]; exact Blk.new' w N 27 _ hN
  have hz0 : W0.heap.size = N + 1 := by rw [← hW0]; simp [hN]
  have bl0 : Below N w W0 := by rw [← hW0]; exact (Below.refl N w).alloc (by omega) _
  have hb0 := hb.bel (hN ▸ bl0)
  have hr0 := hr.bel (hN ▸ bl0)
  obtain ⟨r1, hr1⟩ : ∃ r, fewTB 150 70 t = r := ⟨_, rfl⟩
  have hF1 := holdsT_one W0 (N + 1) hz0 t 27 x1 x2 x3 y1 y2 y3 hb0 hr0
  obtain ⟨W1, hW1⟩ : ∃ W1, W0.alloc (.cells #[.slice x1 x2 x3, .int .i64 t.kind, .int .i64 t.idx, .slice y1 y2 y3] 27) = W1 := ⟨_, rfl⟩
  rw [hW1] at hF1
  have hfl := FewL_calls [t] okT _ W1 hF1 (by simp)
  rw [show [t].all (fewTB 150 70) = r1 by rw [← hr1]; simp] at hfl
  have bb1 : Below W0.heap.size W0 W1 := by rw [← hW1]; exact (Below.refl _ _).alloc (Nat.le_refl _) _
  have HR1 : Hid _ := hr1
  have HW : Hid _ := hW0
  have HW1 : Hid _ := hW1
  have c0 := b0.cell 0
  have c1 := b0.cell 1
  have c2 := b0.cell 2
  have c3 := b0.cell 3
  have hzN : N ≤ W0.heap.size := by omega
  clear hW0 hW1 hr1 hF1 hb hr
  go_enter Try.func6, Try.ntmps6
  go_upto_region 1 with fail
  rw [HW.out]
  clear HW
  go_wp2_with fail
  rw [HW1.out]
  clear HW1
  refine hfl.mono ?_
  rintro e w1 ⟨rfl, hb1⟩
  have hc1 : Cur W0 w1 := (show Cur W0 W1 from bb1).then hb1
  clear hfl hb1 bb1 c0 c1 c2 c3
  cases r1 with
  | false =>
    go_wp2_with fail
    refine (known_calls _).mono ?_
    rintro e w4 ⟨rfl, hb4⟩
    go_wp2
    go_ret
    exact ⟨rfl, bl0.trans (Below.mono (hc1.then hb4) hzN)⟩
  | true =>
  have htot := total_of_few HR1.out
  clear HR1
  have k0 := b0.below hc1 b0.lt
  have hb1 := hc1.holds hb0
  have hr1 := hr0.bel hc1
  have bl1 : Below N w w1 := bl0.trans (Below.mono hc1 hzN)
  clear b0 bl0 hb0 hr0 hc1 hz0 hzN
  -- x, e := Shift(To(t), by, from)
  obtain ⟨E, hE⟩ : ∃ E, shiftE gy fr t = E := ⟨_, rfl⟩
  obtain ⟨X, hX⟩ : ∃ X, shiftT gy fr t = X := ⟨_, rfl⟩
  have hXt : X.total ≤ 150 := by rw [← hX]; exact Nat.le_trans (shiftT_total gy fr t) htot
  have hElo := shiftE_lo gy fr t
  have hS1 := fun cur sb sl (h1 : Holds cur okT t.binds sb) h2 => ShiftT_calls t gy fr okT sb sl cur h1 h2 (by omega) hrg hff hgf
  have hS2 := fun cur sb sl (h1 : Holds cur okT t.binds sb) h2 => refShiftT_calls t gy fr sb sl cur h1 h2 (by omega) hrg hff hgf
  have hL := fun cur sb sl (h1 : Holds cur okT t.binds sb) h2 => refLooseT_calls t okT sb sl cur h1 h2 (by omega) hrg
  rw [hE] at hElo
  simp only [hE, hX] at hS1 hS2
  have HE : Hid _ := hE
  have HX : Hid _ := hX
  have hT := ToT_calls t okT _ _ w1 hb1 hr1 (by omega)
  have c0 := k0.cell 0
  have c1 := k0.cell 1
  have c2 := k0.cell 2
  have c3 := k0.cell 3
  clear hE hX
  go_upto_region 3 with fail
  go_wp2_with fail
  refine hT.mono ?_
  rintro e w2 ⟨vb2, vr2, rfl, h2b, h2r, hb2⟩
  have hT2 := hS1 w2 vb2 vr2 h2b.t (h2r.mono fun _ _ _ => trivial)
  obtain ⟨a1, a3, rfl, _⟩ := h2b.shape
  obtain ⟨b1, b3, rfl, _⟩ := h2r.shape
  rw [hx2] at hT2 ⊢
  rw [hy2] at hT2 ⊢
  clear hT c0 c1 c2 c3 h2b h2r hS1
  go_wp2_with fail
  refine hT2.mono ?_
  rintro e w3 ⟨vb3, vr3, rfl, h3b, h3r, hb3⟩
  obtain ⟨e1, e3, rfl, _⟩ := h3b.shape
  obtain ⟨f1, f3, rfl, _⟩ := h3r.shape
  obtain ⟨e2, he2⟩ : ∃ n, X.binds.length = n := ⟨_, rfl⟩
  obtain ⟨f2, hf2⟩ : ∃ n, X.args.length = n := ⟨_, rfl⟩
  rw [he2] at h3b ⊢
  rw [hf2] at h3r ⊢
  have hc3 : Cur w1 w3 := (show Cur w1 w2 from hb2).then hb3
  obtain ⟨A, hA⟩ : ∃ A, w3.heap.size = A := ⟨_, rfl⟩
  obtain ⟨w4, hw4⟩ : ∃ w4, w3.alloc (.cells #[.slice e1 e2 e3, .int .i64 X.kind, .int .i64 X.idx, .slice f1 f2 f3] 34) = w4 := ⟨_, rfl⟩
  have kA : Blk w4 A 34 #[.slice e1 e2 e3, .int .i64 X.kind, .int .i64 X.idx, .slice f1 f2 f3] := by rw [← hw4]; exact Blk.new' w3 A 34 _ hA
  have hc4 : Cur w1 w4 := by rw [← hw4]; exact hc3.alloc _
  have hxb : Holds w4 okT X.binds (.slice e1 e2 e3) := by rw [← hw4]; exact h3b.t.alloc _
  have hxr : HoldsT w4 okT X.args (.slice f1 f2 f3) := by rw [← hw4]; exact (h3r.mono fun _ _ _ => trivial).alloc _
  have HW4 : Hid _ := hw4
  have k4 := k0.below hc4 k0.lt
  have hT := hS2 w4 _ _ (hc4.holds hb1) (hr1.bel hc4)
  have c0 := k4.cell 0
  have c1 := k4.cell 1
  have c2 := k4.cell 2
  have c3 := k4.cell 3
  clear hT2 hb2 hb3 h3b h3r hc3 hw4 hS2
  go_upto_region 4 with fail
  rw [HW4.out]
  clear HW4
  go_wp2_with fail
  refine hT.mono ?_
  rintro e w5 ⟨vb5, vr5, rfl, h5b, h5r, hb5⟩
  obtain ⟨g1, g3, rfl, _⟩ := h5b.shape
  obtain ⟨i1, i3, rfl, _⟩ := h5r.shape
  rw [he2] at h5b ⊢
  rw [hf2] at h5r ⊢
  obtain ⟨D, hD⟩ : ∃ A, w5.heap.size = A := ⟨_, rfl⟩
  obtain ⟨w6, hw6⟩ : ∃ w6, w5.alloc (.cells #[.slice g1 e2 g3, .int .i64 X.kind, .int .i64 X.idx, .slice i1 f2 i3] 27) = w6 := ⟨_, rfl⟩
  have kD : Blk w6 D 27 #[.slice g1 e2 g3, .int .i64 X.kind, .int .i64 X.idx, .slice i1 f2 i3] := by rw [← hw6]; exact Blk.new' w5 D 27 _ hD
  have hc56 : Cur w4 w6 := by rw [← hw6]; exact (show Cur w4 w5 from hb5).alloc _
  have hyb : Holds w6 okT X.binds (.slice g1 e2 g3) := by rw [← hw6]; exact h5b.alloc _
  have hyr : HoldsT w6 okT X.args (.slice i1 f2 i3) := by rw [← hw6]; exact h5r.alloc _
  have hxb6 := hc56.holds hxb
  have hxr6 := hxr.bel hc56
  have kA6 := kA.below hc56 kA.lt
  have hc6 : Cur w1 w6 := hc4.then hc56
  have HW6 : Hid _ := hw6
  have k6 := k0.below hc6 k0.lt
  have hb6 := hc6.holds hb1
  have hr6 := hr1.bel hc6
  have bl6 : Below N w w6 := bl1.trans (Below.mono hc6 (by have := bl1.size; omega))
  have hz6 : N ≤ w6.heap.size := by have := bl6.size; omega
  clear hT hb5 h5b h5r hw6 c0 c1 c2 c3 k4 hxb hxr kA hc4 hc56 hc6 k0 hb1 hr1 bl1
  go_upto_region 5 with fail
  rw [HW6.out]
  clear HW6
  have c0 := kA6.cell 0
  have c1 := kA6.cell 1
  have c2 := kA6.cell 2
  have c3 := kA6.cell 3
  have d0 := kD.cell 0
  have d1 := kD.cell 1
  have d2 := kD.cell 2
  have d3 := kD.cell 3
  have hK : ∀ v, Cur w6 v → v.cell? ⟨A, 0, none⟩ = some (.slice e1 e2 e3) ∧ v.cell? ⟨A, 1, none⟩ = some (.int .i64 X.kind) ∧ v.cell? ⟨A, 2, none⟩ = some (.int .i64 X.idx) ∧ v.cell? ⟨A, 3, none⟩ = some (.slice f1 f2 f3) ∧ v.cell? ⟨D, 0, none⟩ = some (.slice g1 e2 g3) ∧ v.cell? ⟨D, 1, none⟩ = some (.int .i64 X.kind) ∧ v.cell? ⟨D, 2, none⟩ = some (.int .i64 X.idx) ∧ v.cell? ⟨D, 3, none⟩ = some (.slice i1 f2 i3) := fun v hv => ⟨hv.cell c0, hv.cell c1, hv.cell c2, hv.cell c3, hv.cell d0, hv.cell d1, hv.cell d2, hv.cell d3⟩
  have k10 := fun (cur : World) (hc : Cur w6 cur) => Calls.cur hc (known_calls cur)
  have k26 : ∀ cur, Cur w6 cur → Calls Try.prog 26 #[tmv (.slice e1 e2 e3) X.kind X.idx (.slice f1 f2 f3)] cur fun e w' => ∃ a1 a2 a3 b1 b2 b3, e = .returned (tmv (.slice a1 a2 a3) X.kind X.idx (.slice b1 b2 b3)) ∧ Holds w' okT X.binds (.slice a1 a2 a3) ∧ HoldsT w' okT X.args (.slice b1 b2 b3) ∧ Cur w6 w' := fun cur hc =>
    (OfT_calls X okT _ _ cur (hc.holds hxb6) (hxr6.bel hc) (by omega)).mono fun e w' ⟨vb, vr, q1, q2, q3, q4⟩ => by
      obtain ⟨a1, a3, rfl, _⟩ := q2.shape
      obtain ⟨b1, b3, rfl, _⟩ := q3.shape
      exact ⟨a1, _, a3, b1, _, b3, q1, q2.t, q3.mono fun _ _ _ => trivial, hc.then q4⟩
  have k25 : ∀ cur s1 s2, Cur w6 cur → Holds cur okT X.binds s1 → HoldsT cur okT X.args s2 → Calls Try.prog 25 #[tmv s1 X.kind X.idx s2, tmv (.slice g1 e2 g3) X.kind X.idx (.slice i1 f2 i3)] cur fun e w' => e = .returned (.bool true) ∧ Cur w6 w' := fun cur s1 s2 hc h1 h2 => by
    have h9 := SameTm_calls X X okT okT s1 s2 _ _ cur h1 h2 (hc.holds hyb) (hyr.bel hc) (by omega)
    rw [X.same_self] at h9
    exact h9.mono fun e w' ⟨q1, q2⟩ => ⟨q1, hc.then q2⟩
  have hcur := Cur.refl w6
  first
    | (go_region_held_law (fun v => v.cell? ⟨A, 0, none⟩ = some (.slice e1 e2 e3) ∧ v.cell? ⟨A, 1, none⟩ = some (.int .i64 X.kind) ∧ v.cell? ⟨A, 2, none⟩ = some (.int .i64 X.idx) ∧ v.cell? ⟨A, 3, none⟩ = some (.slice f1 f2 f3) ∧ v.cell? ⟨D, 0, none⟩ = some (.slice g1 e2 g3) ∧ v.cell? ⟨D, 1, none⟩ = some (.int .i64 X.kind) ∧ v.cell? ⟨D, 2, none⟩ = some (.int .i64 X.idx) ∧ v.cell? ⟨D, 3, none⟩ = some (.slice i1 f2 i3))
          (first | exact hK _ (by first | assumption | (refine Cur.drew ?_; assumption)))
          (first
            | (go_at_call 10; refine (k10 _ (by first | assumption | (refine Cur.drew ?_; assumption))).mono ?_; rintro e v4 ⟨rfl, j4⟩)
            | (go_at_call 26; refine (k26 _ (by first | assumption | (refine Cur.drew ?_; assumption))).mono ?_; rintro e v5 ⟨m1, m2, m3, n1, n2, n3, rfl, q26, q26t, j5⟩)
            | (go_at_call 25; refine (k25 _ _ _ (by first | assumption | (refine Cur.drew ?_; assumption)) q26 q26t).mono ?_; rintro e v6 ⟨rfl, j6⟩)))
    | fail
  clear q26 q26t j4 j5 hcur hK k10 k26 k25 c0 c1 c2 c3 d0 d1 d2 d3 kD hyb hyr
  have jj : Below N w v6 := bl6.trans (Below.mono j6 hz6)
  have hzv : N ≤ v6.heap.size := by have := jj.size; omega
  have k7 := k6.below j6 k6.lt
  have hb7 := j6.holds hb6
  have hr7 := hr6.bel j6
  have kA7 := kA6.below j6 kA6.lt
  have hxb7 := j6.holds hxb6
  have hxr7 := hxr6.bel j6
  clear k6 hb6 hr6 kA6 hxb6 hxr6 bl6
  by_cases h0 : E = 0
  rotate_left
  · have z0 : (E != 0) = true := by simp [h0]
    have z1 : decide (E = 0) = false := decide_eq_false h0
    clear hL hElo HE HX hrg hgf hff k7 hb7 hr7 kA7 hxb7 hxr7
    go_wp2
    go_ret
    exact ⟨rfl, jj⟩
  subst h0
  by_cases hg : gy < 0
  · have z0 : decide (gy < 0) = true := decide_eq_true hg
    clear hL hElo HE HX hrg hgf hff k7 hb7 hr7 kA7 hxb7 hxr7
    go_wp2
    go_ret
    exact ⟨rfl, jj⟩
  have z0 : decide (gy < 0) = false := decide_eq_false hg
  have hcl := hL v6 _ _ hb7 hr7
  obtain ⟨LI, hLI⟩ : ∃ x, looseI t = x := ⟨_, rfl⟩
  rw [hLI] at hcl
  have HLI : Hid _ := hLI
  have c0 := k7.cell 0
  have c1 := k7.cell 1
  have c2 := k7.cell 2
  have c3 := k7.cell 3
  clear hLI hL
  go_wp2_with fail
  refine hcl.mono ?_
  clear hcl
  rintro e w7 ⟨rfl, hb8⟩
  have jj8 : Below N w w7 := jj.trans (hb8.mono hzv)
  have k8 := k7.below hb8 k7.lt
  have hb8' := hb7.bel hb8
  have hr8 := hr7.bel hb8
  have kA8 := kA7.below hb8 kA7.lt
  have hxb8 := hxb7.bel hb8
  have hxr8 := hxr7.bel hb8
  have hz8 : N ≤ w7.heap.size := by have := jj8.size; omega
  clear c0 c1 c2 c3 k7 hb7 hr7 kA7 hxb7 hxr7 jj hb8 hzv
  by_cases hl : 1000 < LI
  · have z1 : decide (1000 < LI) = true := decide_eq_true hl
    have z2 : decide (LI > 1000) = true := decide_eq_true hl
    clear hElo HE HX hrg hgf hff k8 hb8' hr8 kA8 hxb8 hxr8
    go_wp2
    go_ret
    exact ⟨rfl, jj8⟩
  have z1 : decide (1000 < LI) = false := decide_eq_false hl
  have z2 : decide (LI > 1000) = false := decide_eq_false hl
  have hXe : X = shT gy fr 0 t := by rw [← HX.out]; unfold shiftT; rw [if_pos HE.out]
  have hgrw := grows_of hrg (by omega) HE.out
  have hXr : X.rng := by rw [hXe]; exact shT_rng gy fr t 1 0 hrg hgrw.2
  have hbk : shiftE (-gy) fr X = 0 := by rw [hXe]; exact shift_back gy fr t (by omega) HE.out (by rw [HLI.out]; omega)
  have hbt : shiftT (-gy) fr X = t := by unfold shiftT; rw [if_pos hbk, hXe]; exact shT_back gy fr (by omega) t 0
  have hcl := ShiftT_calls X (-gy) fr okT _ _ w7 hxb8 hxr8 (by omega) hXr hff (by unfold fits at hgf ⊢; omega)
  rw [hbk, hbt] at hcl
  have hn1 : wrap64 (-gy) = -gy := by unfold wrap64; unfold fits at hgf; omega
  have hn2 : IntKind.i64.wrap (-gy) = -gy := by rw [IntKind.wrap_i64]; unfold fits at hgf; omega
  have c0 := kA8.cell 0
  have c1 := kA8.cell 1
  have c2 := kA8.cell 2
  have c3 := kA8.cell 3
  clear hElo HE HX hrg hff hXe hgrw hXr hbk hbt HLI hxb8 hxr8 hgf
  go_wp2_with fail
  refine hcl.mono ?_
  clear hcl
  rintro e w8 ⟨vb8, vr8, rfl, h9b, h9r, hb9⟩
  obtain ⟨p1, p3, rfl, _⟩ := h9b.shape
  obtain ⟨q1, q3, rfl, _⟩ := h9r.shape
  rw [hx2] at h9b ⊢
  rw [hy2] at h9r ⊢
  obtain ⟨B, hB⟩ : ∃ A, w8.heap.size = A := ⟨_, rfl⟩
  obtain ⟨w9, hw9⟩ : ∃ w9, w8.alloc (.cells #[.slice p1 x2 p3, .int .i64 t.kind, .int .i64 t.idx, .slice q1 y2 q3] 34) = w9 := ⟨_, rfl⟩
  have kB : Blk w9 B 34 #[.slice p1 x2 p3, .int .i64 t.kind, .int .i64 t.idx, .slice q1 y2 q3] := by rw [← hw9]; exact Blk.new' w8 B 34 _ hB
  have hc9 : Cur w7 w9 := by rw [← hw9]; exact (show Cur w7 w8 from hb9).alloc _
  have hpb : Holds w9 okT t.binds (.slice p1 x2 p3) := by rw [← hw9]; exact h9b.t.alloc _
  have hpr : HoldsT w9 okT t.args (.slice q1 y2 q3) := by rw [← hw9]; exact (h9r.mono fun _ _ _ => trivial).alloc _
  have k9 := k8.below hc9 k8.lt
  have hb10 := hc9.holds hb8'
  have hr10 := hr8.bel hc9
  have jj9 : Below N w w9 := jj8.trans (Below.mono hc9 hz8)
  have hz9 : N ≤ w9.heap.size := by have := jj9.size; omega
  have HW9 : Hid _ := hw9
  clear hb9 h9b h9r hw9 c0 c1 c2 c3 k8 hb8' hr8 kA8 hc9 jj8
  go_upto_region 10 with fail
  rw [HW9.out]
  clear HW9
  have c0 := kB.cell 0
  have c1 := kB.cell 1
  have c2 := kB.cell 2
  have c3 := kB.cell 3
  have d0 := k9.cell 0
  have d1 := k9.cell 1
  have d2 := k9.cell 2
  have d3 := k9.cell 3
  have hK : ∀ v, Cur w9 v → v.cell? ⟨B, 0, none⟩ = some (.slice p1 x2 p3) ∧ v.cell? ⟨B, 1, none⟩ = some (.int .i64 t.kind) ∧ v.cell? ⟨B, 2, none⟩ = some (.int .i64 t.idx) ∧ v.cell? ⟨B, 3, none⟩ = some (.slice q1 y2 q3) ∧ v.cell? ⟨N, 0, none⟩ = some (.slice x1 x2 x3) ∧ v.cell? ⟨N, 1, none⟩ = some (.int .i64 t.kind) ∧ v.cell? ⟨N, 2, none⟩ = some (.int .i64 t.idx) ∧ v.cell? ⟨N, 3, none⟩ = some (.slice y1 y2 y3) := fun v hv => ⟨hv.cell c0, hv.cell c1, hv.cell c2, hv.cell c3, hv.cell d0, hv.cell d1, hv.cell d2, hv.cell d3⟩
  have k26 : ∀ cur, Cur w9 cur → Calls Try.prog 26 #[tmv (.slice p1 x2 p3) t.kind t.idx (.slice q1 y2 q3)] cur fun e w' => ∃ a1 a2 a3 b1 b2 b3, e = .returned (tmv (.slice a1 a2 a3) t.kind t.idx (.slice b1 b2 b3)) ∧ Holds w' okT t.binds (.slice a1 a2 a3) ∧ HoldsT w' okT t.args (.slice b1 b2 b3) ∧ Cur w9 w' := fun cur hc =>
    (OfT_calls t okT _ _ cur (hc.holds hpb) (hpr.bel hc) (by omega)).mono fun e w' ⟨vb, vr, q1, q2, q3, q4⟩ => by
      obtain ⟨a1, a3, rfl, _⟩ := q2.shape
      obtain ⟨b1, b3, rfl, _⟩ := q3.shape
      exact ⟨a1, _, a3, b1, _, b3, q1, q2.t, q3.mono fun _ _ _ => trivial, hc.then q4⟩
  have k25 : ∀ cur s1 s2, Cur w9 cur → Holds cur okT t.binds s1 → HoldsT cur okT t.args s2 → Calls Try.prog 25 #[tmv s1 t.kind t.idx s2, tmv (.slice x1 x2 x3) t.kind t.idx (.slice y1 y2 y3)] cur fun e w' => e = .returned (.bool true) ∧ Cur w9 w' := fun cur s1 s2 hc h1 h2 => by
    have h9 := SameTm_calls t t okT okT s1 s2 _ _ cur h1 h2 (hc.holds hb10) (hr10.bel hc) (by omega)
    rw [t.same_self] at h9
    exact h9.mono fun e w' ⟨q1, q2⟩ => ⟨q1, hc.then q2⟩
  have hcur := Cur.refl w9
  first
    | (go_region_held_law (fun v => v.cell? ⟨B, 0, none⟩ = some (.slice p1 x2 p3) ∧ v.cell? ⟨B, 1, none⟩ = some (.int .i64 t.kind) ∧ v.cell? ⟨B, 2, none⟩ = some (.int .i64 t.idx) ∧ v.cell? ⟨B, 3, none⟩ = some (.slice q1 y2 q3) ∧ v.cell? ⟨N, 0, none⟩ = some (.slice x1 x2 x3) ∧ v.cell? ⟨N, 1, none⟩ = some (.int .i64 t.kind) ∧ v.cell? ⟨N, 2, none⟩ = some (.int .i64 t.idx) ∧ v.cell? ⟨N, 3, none⟩ = some (.slice y1 y2 y3))
          (first | exact hK _ (by first | assumption | (refine Cur.drew ?_; assumption)))
          (first
            | (go_at_call 26; refine (k26 _ (by first | assumption | (refine Cur.drew ?_; assumption))).mono ?_; rintro e v7 ⟨m5, m6, m7, n5, n6, n7, rfl, q26, q26t, j7⟩)
            | (go_at_call 25; refine (k25 _ _ _ (by first | assumption | (refine Cur.drew ?_; assumption)) q26 q26t).mono ?_; rintro e v8 ⟨rfl, j8⟩)))
    | fail
  have jj10 : Below N w v8 := jj9.trans (Below.mono j8 hz9)
  clear q26 q26t j7 j8 hcur hK k26 k25 c0 c1 c2 c3 d0 d1 d2 d3 kB hpb hpr k9 hb10 hr10
  go_wp2
  go_ret
  exact ⟨rfl, jj10⟩

end Go.Proofs.Ytheokboggjnenaa
