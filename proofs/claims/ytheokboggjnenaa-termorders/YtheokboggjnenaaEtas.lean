/-
  TermEtas comes out true: the walk.
-/
import Derived.Test.YtheokboggjnenaaRefVar
import Derived.Test.YtheokboggjnenaaCopyT
import Derived.Test.YtheokboggjnenaaKnownT
import Derived.Test.YtheokboggjnenaaFewL
namespace Go.Proofs.Ytheokboggjnenaa
open Go Go.RowKit Go.Sort

theorem total_of_few {t : Tm} (h : fewTB 150 70 t = true) : t.total ≤ 150 := by
  unfold fewTB at h
  exact (of_decide_eq_true h).1
theorem size_of_few60 {t : Ty} (h : fewB 60 60 t = true) : t.size ≤ 60 := by
  unfold fewB at h
  exact (of_decide_eq_true h).1
theorem etaR_total (k i : Int) (l : List Ty) (h : sizeL l ≤ 60) : (etaR k i l).total ≤ 4000 := by
  unfold etaR
  cases etaBad k i with
  | true => rw [if_pos rfl]; decide +kernel
  | false =>
    rw [if_neg (by simp)]
    have h1 := etaK_total k i l
    have h2 : (1 + sizeL l) * (1 + sizeL l) ≤ 61 * 61 := Nat.mul_le_mul (by omega) (by omega)
    omega
theorem etaR_idx (k i : Int) (l : List Ty) (h : sizeL l ≤ 60) (hi : i ≤ 9223372036854775807) : (etaR k i l).idx ≤ 9223372036854775807 := by
  have hl := sizeL_length l
  unfold etaR
  cases hb : etaBad k i with
  | true => rw [if_pos rfl]; decide
  | false =>
    rw [if_neg (by simp), etaK_idx]
    unfold insI
    unfold etaBad at hb
    split
    · rename_i hk
      simp [hk] at hb
      omega
    · exact hi
theorem varR_eta (k i : Int) (l : List Ty) (h : etaBad k i = false) : varR (etaK k i l) = (k, i, true) := by
  have hs : seen (etaK k i l).kind (etaK k i l).idx (etaK k i l).binds.length = (k, i, true) := by
    rw [etaK_kind, etaK_idx, etaK_binds]
    unfold seen insI
    by_cases hk : k = 0
    · subst hk
      have hi : 0 ≤ i := by
        unfold etaBad at h
        simp at h
        omega
      rw [if_neg (by simp), if_pos rfl, if_neg (by omega), show i + (l.length : Int) - (l.length : Int) = i by omega]
    · rw [if_pos hk, if_neg hk]
  unfold varR
  rw [hs]
  have h2 : isEta (etaK k i l) k i (etaK k i l).binds = true := by rw [etaK_binds]; exact isEta_self k i l
  simp only
  rw [h2]
  rfl
/-- A built slice of one term. -/
theorem holdsT_one (w : World) (B : Nat) (hB : w.heap.size = B) (t : Tm) (e : TypeId) (x1 : Option Addr) (x2 x3 : Nat) (y1 : Option Addr) (y2 y3 : Nat) (hb : Holds w okT t.binds (.slice x1 x2 x3)) (hr : HoldsT w okT t.args (.slice y1 y2 y3)) :
    HoldsT (w.alloc (.cells #[.slice x1 x2 x3, .int .i64 t.kind, .int .i64 t.idx, .slice y1 y2 y3] e)) okT [t] (.slice (some ⟨B, 0, none⟩) 1 1) := by
  have hbk := Blk.new' w B e #[.slice x1 x2 x3, .int .i64 t.kind, .int .i64 t.idx, .slice y1 y2 y3] hB
  refine HoldsT.mk [t] (some ⟨B, 0, none⟩) 1 (fun _ => .slice x1 x2 x3) (fun _ => .slice y1 y2 y3) (Nat.le_refl _) (fun h => by cases h) ?_ ?_ ?_
  · intro i u hi
    obtain ⟨rfl, rfl⟩ : i = 0 ∧ t = u := by
      match i, hi with
      | 0, hi => exact ⟨rfl, by simpa using hi⟩
      | i + 1, hi => simp at hi
    exact ⟨B, 0, rfl, trivial, hbk.cell 0, hbk.cell 1, hbk.cell 2, hbk.cell 3⟩
  · intro i u hi
    obtain rfl : t = u := by
      match i, hi with
      | 0, hi => simpa using hi
      | i + 1, hi => simp at hi
    exact hb.alloc _
  · intro i u hi
    obtain rfl : t = u := by
      match i, hi with
      | 0, hi => simpa using hi
      | i + 1, hi => simp at hi
    exact hr.alloc _

set_option maxRecDepth 100000 in
set_option maxHeartbeats 1600000 in
theorem Etas_calls (hk hi : Int) (ty : Ty) (t : Tm) (sl sb sr : Value) (w : World) (hh : Holds w okT ty.args sl) (hb : Holds w okT t.binds sb) (hr : HoldsT w okT t.args sr) (hhi : hi ≤ 9223372036854775807) (hti : t.idx ≤ 9223372036854775807) (hti0 : -9223372036854775808 ≤ t.idx) :
    Calls Try.prog 7 #[hv hk hi, tv sl ty.base, tmv sb t.kind t.idx sr] w fun e w' => e = .returned (.bool true) ∧ Below w.heap.size w w' := by
  obtain ⟨x1, x3, rfl, _⟩ := hb.shape
  obtain ⟨y1, y3, rfl, _⟩ := hr.shape
  obtain ⟨u1, u3, rfl, _⟩ := hh.shape
  obtain ⟨x2, hx2⟩ : ∃ n, t.binds.length = n := ⟨_, rfl⟩
  obtain ⟨y2, hy2⟩ : ∃ n, t.args.length = n := ⟨_, rfl⟩
  obtain ⟨u2, hu2⟩ : ∃ n, ty.args.length = n := ⟨_, rfl⟩
  rw [hx2] at hb ⊢
  rw [hy2] at hr ⊢
  rw [hu2] at hh ⊢
  obtain ⟨N, hN⟩ : ∃ N, w.heap.size = N := ⟨_, rfl⟩
  rw [hN]
  obtain ⟨W0, hW0⟩ : ∃ W0, ((w.alloc (.cells #[.int .i64 hk, .int .i64 hi] 24)).alloc (.cells #[.slice u1 u2 u3, .int .i64 ty.base] 55)).alloc (.cells #[.slice x1 x2 x3, .int .i64 t.kind, .int .i64 t.idx, .slice y1 y2 y3] 27) = W0 := ⟨_, rfl⟩
  have b0 : Blk W0 N 24 #[.int .i64 hk, .int .i64 hi] := by rw [← hW0]; exact ((Blk.new' w N 24 _ hN).alloc _).alloc _
  have b1 : Blk W0 (N + 1) 55 #[.slice u1 u2 u3, .int .i64 ty.base] := by rw [← hW0]; exact (Blk.new' _ (N + 1) 55 _ (by simp [hN])).alloc _
  have b2 : Blk W0 (N + 2) 27 #[.slice x1 x2 x3, .int .i64 t.kind, .int .i64 t.idx, .slice y1 y2 y3] := by rw [← hW0]; exact Blk.new' _ (N + 2) 27 _ (by simp [hN])
  have hz0 : W0.heap.size = N + 3 := by rw [← hW0]; simp [hN]
  have bl0 : Below N w W0 := by rw [← hW0]; exact (((Below.refl N w).alloc (by omega) _).alloc (by simp; omega) _).alloc (by simp; omega) _
  have hh0 := hh.bel (hN ▸ bl0)
  have hb0 := hb.bel (hN ▸ bl0)
  have hr0 := hr.bel (hN ▸ bl0)
  obtain ⟨r1, hr1⟩ : ∃ r, fewTB 150 70 t = r := ⟨_, rfl⟩
  obtain ⟨r2, hr2⟩ : ∃ r, fewB 60 60 ty = r := ⟨_, rfl⟩
  have hF1 := holdsT_one W0 (N + 3) hz0 t 27 x1 x2 x3 y1 y2 y3 hb0 hr0
  obtain ⟨W1, hW1⟩ : ∃ W1, W0.alloc (.cells #[.slice x1 x2 x3, .int .i64 t.kind, .int .i64 t.idx, .slice y1 y2 y3] 27) = W1 := ⟨_, rfl⟩
  rw [hW1] at hF1
  have hfl := FewL_calls [t] okT _ W1 hF1 (by simp)
  rw [show [t].all (fewTB 150 70) = r1 by rw [← hr1]; simp] at hfl
  have bb1 : Below W0.heap.size W0 W1 := by rw [← hW1]; exact (Below.refl _ _).alloc (Nat.le_refl _) _
  have HR1 : Hid _ := hr1
  have HR2 : Hid _ := hr2
  have HW : Hid _ := hW0
  have HW1 : Hid _ := hW1
  have c0 := b2.cell 0
  have c1 := b2.cell 1
  have c2 := b2.cell 2
  have c3 := b2.cell 3
  have hzN : N ≤ W0.heap.size := by omega
  clear hW0 hW1 hr1 hF1 hh hb hr
  go_enter Try.func7, Try.ntmps7
  go_upto_region 1 with fail
  rw [HW.out]
  clear HW
  go_wp2_with fail
  rw [HW1.out]
  clear HW1
  refine hfl.mono ?_
  rintro e w1 ⟨rfl, hb1⟩
  have hc1 : Cur W0 w1 := (show Cur W0 W1 from bb1).then hb1
  clear hfl hb1 bb1 c0 c1 c2 c3
  cases r1 with
  | false =>
    go_wp2_with fail
    refine (known_calls _).mono ?_
    rintro e w4 ⟨rfl, hb4⟩
    go_wp2
    go_ret
    exact ⟨rfl, bl0.trans (Below.mono (hc1.then hb4) hzN)⟩
  | true =>
  have hfw := Few_calls 60 (by omega) 60 (by omega) ty okT _ w1 (hc1.holds hh0)
  rw [hr2] at hfw
  clear hr2
  have d0 := hc1.cell (b1.cell 0)
  have d1 := hc1.cell (b1.cell 1)
  go_wp2_with fail
  refine hfw.mono ?_
  rintro e w2 ⟨rfl, hb2⟩
  have hc2 : Cur W0 w2 := hc1.then hb2
  clear hfw hb2 d0 d1 hc1
  cases r2 with
  | false =>
    go_wp2_with fail
    refine (known_calls _).mono ?_
    rintro e w4 ⟨rfl, hb4⟩
    go_wp2
    go_ret
    exact ⟨rfl, bl0.trans (Below.mono (hc2.then hb4) hzN)⟩
  | true =>
  have htot := total_of_few HR1.out
  have htz := size_of_few60 HR2.out
  have htz2 := ty.size_eq
  clear HR1 HR2
  have k0 := b0.below hc2 b0.lt
  have k1 := b1.below hc2 b1.lt
  have k2 := b2.below hc2 b2.lt
  have hh2 := hc2.holds hh0
  have hb2' := hc2.holds hb0
  have hr2' := hr0.bel hc2
  have bl2 : Below N w w2 := bl0.trans (Below.mono hc2 hzN)
  have hs2 : N + 3 ≤ w2.heap.size := by have := Below.size hc2; omega
  obtain ⟨et, het⟩ : ∃ e, etaR hk hi ty.args = e := ⟨_, rfl⟩
  have hett : et.total ≤ 4000 := by rw [← het]; exact etaR_total _ _ _ (by omega)
  have heti : et.idx ≤ 9223372036854775807 := by rw [← het]; exact etaR_idx _ _ _ (by omega) hhi
  have HET : Hid _ := het
  clear b0 b1 b2 bl0 hh0 hb0 hr0 hc2 hz0 hzN het hN
  obtain ⟨S, hS⟩ : ∃ S, w2.heap.size = S := ⟨_, rfl⟩
  go_upto_region 3 with fail
  go_cut [7] (fun s7 wx => ∃ (R : Nat) (va : Option Addr) (vn vc : Nat) (vd : Option Addr) (vm ve : Nat), s7 = .pointer (some ⟨R, 0, none⟩) ∧ S ≤ R ∧ Blk wx R 34 #[.slice va vn vc, .int .i64 et.kind, .int .i64 et.idx, .slice vd vm ve] ∧ Holds wx okT et.binds (.slice va vn vc) ∧ HoldsT wx okT et.args (.slice vd vm ve) ∧ Below S w2 wx)
  case first =>
    have c0 := k0.cell 0
    have c1 := k0.cell 1
    have c2 := k1.cell 0
    have c3 := k1.cell 1
    have hK : ∀ v, Cur w2 v → v.cell? ⟨N, 0, none⟩ = some (.int .i64 hk) ∧ v.cell? ⟨N, 1, none⟩ = some (.int .i64 hi) ∧ v.cell? ⟨N + 1, 0, none⟩ = some (.slice u1 u2 u3) ∧ v.cell? ⟨N + 1, 1, none⟩ = some (.int .i64 ty.base) := fun v hv => ⟨hv.cell c0, hv.cell c1, hv.cell c2, hv.cell c3⟩
    have k41 : ∀ cur, Cur w2 cur → Calls Try.prog 41 #[tv (.slice u1 u2 u3) ty.base] cur fun e w' => ∃ va vn vc, e = .returned (tv (.slice va vn vc) ty.base) ∧ Holds w' okT ty.args (.slice va vn vc) ∧ Below cur.heap.size cur w' ∧ Cur w2 w' := fun cur hc =>
      (To_calls ty okT _ cur (hc.holds hh2) (by omega)).mono fun e w' ⟨v, h1, h2, h3⟩ => by
        obtain ⟨va, vc, rfl, _⟩ := h2.shape
        exact ⟨va, _, vc, h1, h2.t, h3, hc.then h3⟩
    have k47 : ∀ cur va vn vc, Cur w2 cur → Holds cur okT ty.args (.slice va vn vc) → Calls Try.prog 47 #[hv hk hi, tv (.slice va vn vc) ty.base] cur fun e w' => ∃ va vn vc vd vm ve, e = .returned (tmv (.slice va vn vc) et.kind et.idx (.slice vd vm ve)) ∧ Holds w' (fun b => cur.heap.size ≤ b) et.binds (.slice va vn vc) ∧ HoldsT w' (fun b => cur.heap.size ≤ b) et.args (.slice vd vm ve) ∧ Below cur.heap.size cur w' ∧ Cur w2 w' := fun cur va vn vc hc hv =>
      (Eta_calls hk hi ty _ cur hv (by omega)).mono fun e w' ⟨vb, vr, h1, h2, h3, h4⟩ => by
        obtain ⟨va, vc, rfl, _⟩ := h2.shape
        obtain ⟨vd, ve, rfl, _⟩ := h3.shape
        rw [HET.out] at h1 h2 h3
        exact ⟨va, _, vc, vd, _, ve, h1, h2, h3, h4, hc.then h4⟩
    have hZ : Blk (w2.alloc (.cells #[.slice none 0 0, .int .i64 0, .int .i64 0, .slice none 0 0] 34)).drew S 34 #[.slice none 0 0, .int .i64 0, .int .i64 0, .slice none 0 0] := Blk.new' w2 S 34 _ hS
    have hzz : w2.heap.size ≤ S := by omega
    have hcur := Cur.refl w2
    go_region_held3 (fun v => v.cell? ⟨N, 0, none⟩ = some (.int .i64 hk) ∧ v.cell? ⟨N, 1, none⟩ = some (.int .i64 hi) ∧ v.cell? ⟨N + 1, 0, none⟩ = some (.slice u1 u2 u3) ∧ v.cell? ⟨N + 1, 1, none⟩ = some (.int .i64 ty.base))
      (first | with_reducible exact hK _ (by first | with_reducible assumption | (with_reducible refine Cur.drew ?_; assumption) | (with_reducible refine Cur.alloc ?_ _; assumption) | (with_reducible refine Cur.drew (Cur.alloc ?_ _); assumption) | (with_reducible refine Cur.alloc (Cur.drew ?_) _; assumption) | (with_reducible refine Cur.set (Cur.set (Cur.set (Cur.set ?_ hzz _ _) hzz _ _) hzz _ _) hzz _ _; assumption) | (with_reducible refine Cur.set (Cur.set (Cur.set (Cur.set ?_ hzy _ _) hzy _ _) hzy _ _) hzy _ _; assumption)))
      (first
        | (go_at_call 41; refine (k41 _ (by first | with_reducible assumption | (with_reducible refine Cur.drew ?_; assumption) | (with_reducible refine Cur.alloc ?_ _; assumption) | (with_reducible refine Cur.drew (Cur.alloc ?_ _); assumption) | (with_reducible refine Cur.alloc (Cur.drew ?_) _; assumption) | (with_reducible refine Cur.set (Cur.set (Cur.set (Cur.set ?_ hzz _ _) hzz _ _) hzz _ _) hzz _ _; assumption) | (with_reducible refine Cur.set (Cur.set (Cur.set (Cur.set ?_ hzy _ _) hzy _ _) hzy _ _) hzy _ _; assumption))).mono ?_; rintro e p1 ⟨va, vn, vc, rfl, hv1, hb1, hc1⟩; have hzy : w2.heap.size ≤ p1.heap.size := Below.size hc1; have hY := Blk.new p1 34 #[.slice none 0 0, .int .i64 0, .int .i64 0, .slice none 0 0]; try (with_reducible have bA := hZ.below hb1 hZ.lt))
        | (go_at_call 47; refine (k47 _ _ _ _ (by first | with_reducible assumption | (with_reducible refine Cur.drew ?_; assumption) | (with_reducible refine Cur.alloc ?_ _; assumption) | (with_reducible refine Cur.drew (Cur.alloc ?_ _); assumption) | (with_reducible refine Cur.alloc (Cur.drew ?_) _; assumption) | (with_reducible refine Cur.set (Cur.set (Cur.set (Cur.set ?_ hzz _ _) hzz _ _) hzz _ _) hzz _ _; assumption) | (with_reducible refine Cur.set (Cur.set (Cur.set (Cur.set ?_ hzy _ _) hzy _ _) hzy _ _) hzy _ _; assumption)) (by first | with_reducible assumption | (with_reducible refine Holds.alloc ?_ _; assumption) | (with_reducible refine Holds.drew (Holds.alloc ?_ _); assumption))).mono ?_; rintro e p2 ⟨wa, wn, wc', wd, wm, we, rfl, hv2, hv3, hb2, hc2⟩; try (first | (with_reducible have bR := bA.below hb2 bA.lt) | (with_reducible have bR := hY.below hb2 hY.lt)); try (have r0 := bR.cell 0; have r1 := bR.cell 1; have r2 := bR.cell 2; have r3 := bR.cell 3; have g0 := bR.frozen 0; have g1 := bR.frozen 1; have g2 := bR.frozen 2; have g3 := bR.frozen 3)))
    · have hs3 := Below.size hc1
      have hs5 := Below.size hc2
      have q1 := hv2.t
      have q2 := hv3.t
      go_wp2_with fail
      go_meet
      refine ⟨p2.heap.size, wa, wn, wc', wd, wm, we, rfl, by omega, Blk.new p2 34 _, q1.alloc _, q2.alloc _, ?_⟩
      have h9 := hc2.alloc (.cells #[.slice wa wn wc', .int .i64 et.kind, .int .i64 et.idx, .slice wd wm we] 34)
      unfold Cur at h9
      rwa [hS] at h9
    · have hs6 : p1.heap.size + 1 = (p1.alloc (.cells #[.slice none 0 0, .int .i64 0, .int .i64 0, .slice none 0 0] 34)).heap.size := by simp
      go_wp2_with fail
      go_meet
      refine ⟨p1.heap.size, wa, wn, wc', wd, wm, we, rfl, by omega, (((bR.set 0 (.slice wa wn wc')).set 1 (.int .i64 et.kind)).set 2 (.int .i64 et.idx)).set 3 (.slice wd wm we), holds_set4 hv2 (fun b h1 h2 => ⟨by omega, trivial⟩) _ _ _ _, holdsT_z hv3 (fun b h1 h2 => ⟨by omega, trivial⟩) _ _ _ _, ?_⟩
      have h9 := (((hc2.set hzy 0 (.slice wa wn wc')).set hzy 1 (.int .i64 et.kind)).set hzy 2 (.int .i64 et.idx)).set hzy 3 (.slice wd wm we)
      unfold Cur at h9
      rwa [hS] at h9
    · have hs6 : S < p1.heap.size := bA.lt
      go_wp2_with fail
      go_meet
      refine ⟨S, wa, wn, wc', wd, wm, we, rfl, Nat.le_refl _, (((bR.set 0 (.slice wa wn wc')).set 1 (.int .i64 et.kind)).set 2 (.int .i64 et.idx)).set 3 (.slice wd wm we), holds_set4 hv2 (fun b h1 h2 => ⟨by omega, trivial⟩) _ _ _ _, holdsT_z hv3 (fun b h1 h2 => ⟨by omega, trivial⟩) _ _ _ _, ?_⟩
      have h9 := (((hc2.set hzz 0 (.slice wa wn wc')).set hzz 1 (.int .i64 et.kind)).set hzz 2 (.int .i64 et.idx)).set hzz 3 (.slice wd wm we)
      unfold Cur at h9
      rwa [hS] at h9
  case rest =>
  obtain ⟨R, va, vn, vc, vd, vm, ve, rfl, hR, bR, hxb, hxr, hbc⟩ := hcut
  have m0 := k0.below hbc (by omega)
  have m1 := k1.below hbc (by omega)
  have m2 := k2.below hbc (by omega)
  have hbc' : Below w2.heap.size w2 wc := by rw [hS]; exact hbc
  have hh3 := hh2.bel hbc'
  have hb3 := hb2'.bel hbc'
  have hr3 := hr2'.bel hbc'
  have bl3 : Below N w wc := bl2.trans (hbc.mono (by omega))
  have hs3 : N + 3 ≤ wc.heap.size := by have := hbc.size; omega
  clear k0 k1 k2 hh2 hb2' hr2' bl2 hbc hbc'
  have c0 := bR.cell 0
  have c1 := bR.cell 1
  have c2 := bR.cell 2
  have c3 := bR.cell 3
  have d0 := m0.cell 0
  have d1 := m0.cell 1
  have d2 := m1.cell 0
  have d3 := m1.cell 1
  have hK : ∀ v, Cur wc v → v.cell? ⟨R, 0, none⟩ = some (.slice va vn vc) ∧ v.cell? ⟨R, 1, none⟩ = some (.int .i64 et.kind) ∧ v.cell? ⟨R, 2, none⟩ = some (.int .i64 et.idx) ∧ v.cell? ⟨R, 3, none⟩ = some (.slice vd vm ve) ∧ v.cell? ⟨N, 0, none⟩ = some (.int .i64 hk) ∧ v.cell? ⟨N, 1, none⟩ = some (.int .i64 hi) ∧ v.cell? ⟨N + 1, 0, none⟩ = some (.slice u1 u2 u3) ∧ v.cell? ⟨N + 1, 1, none⟩ = some (.int .i64 ty.base) := fun v hv => ⟨hv.cell c0, hv.cell c1, hv.cell c2, hv.cell c3, hv.cell d0, hv.cell d1, hv.cell d2, hv.cell d3⟩
  have kOf : ∀ (v : Tm) (cur : World) (sb sr : Value), v.total ≤ 1000000 → Cur wc cur → Holds cur okT v.binds sb → HoldsT cur okT v.args sr → Calls Try.prog 26 #[tmv sb v.kind v.idx sr] cur fun e w' => ∃ a1 a2 a3 b1 b2 b3, e = .returned (tmv (.slice a1 a2 a3) v.kind v.idx (.slice b1 b2 b3)) ∧ Holds w' okT v.binds (.slice a1 a2 a3) ∧ HoldsT w' okT v.args (.slice b1 b2 b3) ∧ Below cur.heap.size cur w' ∧ Cur wc w' := fun v cur sb sr hz hc h1 h2 =>
    (OfT_calls v okT sb sr cur h1 h2 hz).mono fun e w' ⟨vb, vr, g1, g2, g3, g4⟩ => by
      obtain ⟨a1, a3, rfl, _⟩ := g2.shape
      obtain ⟨b1, b3, rfl, _⟩ := g3.shape
      exact ⟨a1, _, a3, b1, _, b3, g1, g2.t, g3.t, g4, hc.then g4⟩
  have k26 := fun (cur : World) (hc : Cur wc cur) => kOf et cur _ _ (by omega) hc (hc.holds hxb) (hxr.bel hc)
  have k48 : ∀ cur, Cur wc cur → Calls Try.prog 48 #[hv hk hi, tv (.slice u1 u2 u3) ty.base] cur fun e w' => ∃ a1 a2 a3 b1 b2 b3, e = .returned (tmv (.slice a1 a2 a3) et.kind et.idx (.slice b1 b2 b3)) ∧ Holds w' okT et.binds (.slice a1 a2 a3) ∧ HoldsT w' okT et.args (.slice b1 b2 b3) ∧ Below cur.heap.size cur w' ∧ Cur wc w' := fun cur hc =>
    (RefEta_calls hk hi ty _ cur (hc.holds hh3) (by omega)).mono fun e w' ⟨vb, vr, g1, g2, g3, g4⟩ => by
      obtain ⟨a1, a3, rfl, _⟩ := g2.shape
      obtain ⟨b1, b3, rfl, _⟩ := g3.shape
      rw [HET.out] at g1 g2 g3
      exact ⟨a1, _, a3, b1, _, b3, g1, g2, g3, g4, hc.then g4⟩
  have kSame : ∀ (v : Tm) (cur : World) (s1 s2 s3 s4 : Value), v.total ≤ 1000000 → Cur wc cur → Holds cur okT v.binds s1 → HoldsT cur okT v.args s2 → Holds cur okT v.binds s3 → HoldsT cur okT v.args s4 → Calls Try.prog 25 #[tmv s1 v.kind v.idx s2, tmv s3 v.kind v.idx s4] cur fun e w' => e = .returned (.bool true) ∧ Cur wc w' := fun v cur s1 s2 s3 s4 hz hc h1 h2 h3 h4 => by
    have h9 := SameTm_calls v v okT okT s1 s2 s3 s4 cur h1 h2 h3 h4 hz
    rw [v.same_self] at h9
    exact h9.mono fun e w' ⟨g1, g2⟩ => ⟨g1, hc.then g2⟩
  have hett2 : et.total ≤ 1000000 := by omega
  have hcur := Cur.refl wc
  go_upto_region 4 with fail
  go_region_held3 (fun v => v.cell? ⟨R, 0, none⟩ = some (.slice va vn vc) ∧ v.cell? ⟨R, 1, none⟩ = some (.int .i64 et.kind) ∧ v.cell? ⟨R, 2, none⟩ = some (.int .i64 et.idx) ∧ v.cell? ⟨R, 3, none⟩ = some (.slice vd vm ve) ∧ v.cell? ⟨N, 0, none⟩ = some (.int .i64 hk) ∧ v.cell? ⟨N, 1, none⟩ = some (.int .i64 hi) ∧ v.cell? ⟨N + 1, 0, none⟩ = some (.slice u1 u2 u3) ∧ v.cell? ⟨N + 1, 1, none⟩ = some (.int .i64 ty.base))
    (first | with_reducible exact hK _ (by first | with_reducible assumption | (with_reducible refine Cur.drew ?_; assumption)))
    (first
      | (go_at_call 26; refine (k26 _ (by first | with_reducible assumption | (with_reducible refine Cur.drew ?_; assumption))).mono ?_; rintro e v1 ⟨a1, a2, a3, b1, b2, b3, rfl, h26, h26t, _, i26⟩)
      | (go_at_call 48; refine (k48 _ (by first | with_reducible assumption | (with_reducible refine Cur.drew ?_; assumption))).mono ?_; rintro e v2 ⟨e1, e2, e3, f1, f2, f3, rfl, h48, h48t, hb48, i48⟩; have h26' := h26.bel hb48; have h26t' := h26t.bel hb48)
      | (go_at_call 25; refine (kSame et _ _ _ _ _ hett2 (by first | with_reducible assumption | (with_reducible refine Cur.drew ?_; assumption)) h26' h26t' h48 h48t).mono ?_; rintro e w5 ⟨rfl, hc5⟩))
  clear h26 h26t h48 h48t h26' h26t' hb48 i26 i48 hK k26 k48
  obtain ⟨⟨pk, pi, po⟩, hpe⟩ : ∃ s, varR t = s := ⟨_, rfl⟩
  obtain ⟨⟨qk, qi, qo⟩, hqe⟩ : ∃ s, varR et = s := ⟨_, rfl⟩
  have hV1 := fun w sb sr h1 h2 => Var_calls t sb sr w h1 h2 (by omega) hti
  have hV2 := fun w sb sr h1 h2 => RefVar_calls t sb sr w h1 h2 (by omega) hti hti0
  have hV3 := fun w sb sr h1 h2 => Var_calls et sb sr w h1 h2 (by omega) heti
  simp only [hpe] at hV1 hV2
  simp only [hqe] at hV3
  have HQE : Hid _ := hqe
  clear hpe hqe
  have n2 := m2.below hc5 m2.lt
  have t0 := n2.cell 0
  have t1 := n2.cell 1
  have t2 := n2.cell 2
  have t3 := n2.cell 3
  have hT := ToT_calls t okT _ _ w5 (hc5.holds hb3) (hr3.bel hc5) (by omega)
  clear n2
  go_wp2_with fail
  refine hT.mono ?_
  rintro e w6 ⟨vb6, vr6, rfl, h6b, h6r, hb6⟩
  have hc6 := hc5.then hb6
  obtain ⟨a1, a3, rfl, _⟩ := h6b.shape
  obtain ⟨b1, b3, rfl, _⟩ := h6r.shape
  rw [hx2] at h6b
  rw [hy2] at h6r
  have hT2 := hV1 w6 _ _ h6b.t h6r.t
  clear t0 t1 t2 t3 hT hb6 hc5
  go_wp2_with fail
  refine hT2.mono ?_
  rintro e w7 ⟨rfl, hb7⟩
  have hc7 := hc6.then hb7
  clear hT2 h6b h6r hb7 hc6 hV1
  obtain ⟨A8, hA8⟩ : ∃ A, w7.heap.size = A := ⟨_, rfl⟩
  obtain ⟨w8, hw8⟩ : ∃ w8, w7.alloc (.cells #[.int .i64 pk, .int .i64 pi] 31) = w8 := ⟨_, rfl⟩
  have b8 : Blk w8 A8 31 #[.int .i64 pk, .int .i64 pi] := by rw [← hw8]; exact Blk.new' w7 A8 31 _ hA8
  have hc8 : Cur wc w8 := by rw [← hw8]; exact hc7.alloc _
  have n2 := m2.below hc8 m2.lt
  have t0 := n2.cell 0
  have t1 := n2.cell 1
  have t2 := n2.cell 2
  have t3 := n2.cell 3
  have hT := hV2 w8 _ _ (hc8.holds hb3) (hr3.bel hc8)
  have HW8 : Hid _ := hw8
  clear hw8 n2 hV2 hc7
  go_upto_region 7 with fail
  rw [HW8.out]
  clear HW8
  go_wp2_with fail
  refine hT.mono ?_
  rintro e w9 ⟨rfl, hb9⟩
  have hc9 := hc8.then hb9
  have b8' := b8.below hb9 b8.lt
  clear t0 t1 t2 t3 hT hb9 hc8 b8
  obtain ⟨A10, hA10⟩ : ∃ A, w9.heap.size = A := ⟨_, rfl⟩
  obtain ⟨w10, hw10⟩ : ∃ w10, w9.alloc (.cells #[.int .i64 pk, .int .i64 pi] 24) = w10 := ⟨_, rfl⟩
  have b10 : Blk w10 A10 24 #[.int .i64 pk, .int .i64 pi] := by rw [← hw10]; exact Blk.new' w9 A10 24 _ hA10
  have hc10 : Cur wc w10 := by rw [← hw10]; exact hc9.alloc _
  have b8'' : Blk w10 A8 31 #[.int .i64 pk, .int .i64 pi] := by rw [← hw10]; exact b8'.alloc _
  have nR := bR.below hc10 bR.lt
  have c0 := nR.cell 0
  have c1 := nR.cell 1
  have c2 := nR.cell 2
  have c3 := nR.cell 3
  have g0 := b8''.cell 0
  have g1 := b8''.cell 1
  have g2 := b10.cell 0
  have g3 := b10.cell 1
  have z1 : (po != po) = false := by cases po <;> rfl
  have hT := hV3 w10 _ _ (hc10.holds hxb) (hxr.bel hc10)
  have HW10 : Hid _ := hw10
  clear hw10 hV3 hc9 b8' nR
  go_upto_region 8 with fail
  rw [HW10.out]
  clear HW10
  go_wp2_with fail
  refine hT.mono ?_
  rintro e w11 ⟨rfl, hb11⟩
  have hc11 := hc10.then hb11
  clear hT hb11 hc10 b8'' b10 c0 c1 c2 c3 g0 g1 g2 g3
  obtain ⟨A12, hA12⟩ : ∃ A, w11.heap.size = A := ⟨_, rfl⟩
  obtain ⟨w12, hw12⟩ : ∃ w12, w11.alloc (.cells #[.int .i64 qk, .int .i64 qi] 31) = w12 := ⟨_, rfl⟩
  have b12 : Blk w12 A12 31 #[.int .i64 qk, .int .i64 qi] := by rw [← hw12]; exact Blk.new' w11 A12 31 _ hA12
  have hc12 : Cur wc w12 := by rw [← hw12]; exact hc11.alloc _
  have HW12 : Hid _ := hw12
  clear hw12 hc11
  have n0 := m0.below hc12 m0.lt
  have n2 := m2.below hc12 m2.lt
  have d0 := n0.cell 0
  have d1 := n0.cell 1
  have g0 := b12.cell 0
  have g1 := b12.cell 1
  go_upto_region 11 with fail
  rw [HW12.out]
  clear HW12
  go_cut [93] (fun s93 wx => s93 = .bool false ∧ w12 = wx)
  case first =>
    obtain ⟨e1, he1⟩ : ∃ e, decide (0 ≤ hi) = e := ⟨_, rfl⟩
    have he1' : decide (hi ≥ 0) = e1 := he1
    obtain ⟨e2, he2⟩ : ∃ e, decide (hi ≤ 1000) = e := ⟨_, rfl⟩
    cases hbad : etaBad hk hi with
    | true =>
      have hq : hk = 0 ∧ (e1 && e2) = false := by
        unfold etaBad at hbad
        simp at hbad
        refine ⟨hbad.1, ?_⟩
        rw [← he1, ← he2]
        simp
        omega
      obtain ⟨rfl, hq⟩ := hq
      clear hbad HQE HET
      cases e1 <;> cases e2 <;> first
        | (simp at hq; done)
        | (go_wp2_with fail
           go_meet
           exact ⟨rfl, rfl⟩)
    | false =>
      have hq := HQE.out
      rw [← HET.out] at hq
      unfold etaR at hq
      rw [hbad, if_neg (by simp), varR_eta hk hi ty.args hbad] at hq
      obtain ⟨rfl, rfl, rfl⟩ : hk = qk ∧ hi = qi ∧ qo = true := by simpa using hq
      clear hq HQE HET
      obtain ⟨e0, he0⟩ : ∃ e, (hk != 0) = e := ⟨_, rfl⟩
      cases e0 with
      | true =>
        clear hbad
        go_wp2_with fail
        go_meet
        exact ⟨rfl, rfl⟩
      | false =>
        have hk0 : hk = 0 := by simpa using he0
        obtain ⟨rfl, rfl⟩ : e1 = true ∧ e2 = true := by
          unfold etaBad at hbad
          simp [hk0] at hbad
          rw [← he1, ← he2]
          simp
          omega
        clear hbad hk0
        go_wp2_with fail
        go_meet
        exact ⟨rfl, rfl⟩
  case rest =>
  obtain ⟨rfl, rfl⟩ := hcut
  have t0 := n2.cell 0
  have t1 := n2.cell 1
  have t2 := n2.cell 2
  have t3 := n2.cell 3
  obtain ⟨A, hA⟩ : ∃ A, w12.heap.size = A := ⟨_, rfl⟩
  obtain ⟨B, hB⟩ : ∃ B, w12.alloc (.cells #[.slice none 0 0, .int .i64 t.kind, .int .i64 t.idx, .slice y1 y2 y3] 27) = B := ⟨_, rfl⟩
  have bA : Blk B A 27 #[.slice none 0 0, .int .i64 t.kind, .int .i64 t.idx, .slice y1 y2 y3] := by rw [← hB]; exact Blk.new' w12 A 27 _ hA
  have hcB : Cur wc B := by rw [← hB]; exact hc12.alloc _
  have HB : Hid _ := hB
  clear hB n0 n2 d0 d1 g0 g1 b12 HQE HET kOf kSame
  go_upto_region 15 with fail
  rw [HB.out]
  clear HB t0 t1 t2 t3
  have n2 := m2.below hcB m2.lt
  have t0 := n2.cell 0
  have t1 := n2.cell 1
  have t2 := n2.cell 2
  have t3 := n2.cell 3
  have s0 := bA.cell 0
  have s1 := bA.cell 1
  have s2 := bA.cell 2
  have s3 := bA.cell 3
  have hb4 := hcB.holds hb3
  have hr4 := hr3.bel hcB
  have hbt : (Tm.mk [] t.kind t.idx t.args).total ≤ 1000000 := by
    have h9 : (Tm.mk [] t.kind t.idx t.args).total = 1 + 0 + totalT t.args := rfl
    have h8 := t.total_eq
    omega
  have htt : t.total ≤ 1000000 := by omega
  have hK : ∀ v, Cur B v → v.cell? ⟨N + 2, 0, none⟩ = some (.slice x1 x2 x3) ∧ v.cell? ⟨N + 2, 1, none⟩ = some (.int .i64 t.kind) ∧ v.cell? ⟨N + 2, 2, none⟩ = some (.int .i64 t.idx) ∧ v.cell? ⟨N + 2, 3, none⟩ = some (.slice y1 y2 y3) ∧ v.cell? ⟨A, 0, none⟩ = some (.slice none 0 0) ∧ v.cell? ⟨A, 1, none⟩ = some (.int .i64 t.kind) ∧ v.cell? ⟨A, 2, none⟩ = some (.int .i64 t.idx) ∧ v.cell? ⟨A, 3, none⟩ = some (.slice y1 y2 y3) := fun v hv => ⟨hv.cell t0, hv.cell t1, hv.cell t2, hv.cell t3, hv.cell s0, hv.cell s1, hv.cell s2, hv.cell s3⟩
  have q10 : ∀ cur, Cur B cur → Calls Try.prog 10 #[] cur fun e w' => e = .returned (.bool true) ∧ Cur B w' := fun cur hc => (known_calls cur).mono fun e w' ⟨h1, h2⟩ => ⟨h1, hc.then h2⟩
  have q11 : ∀ cur, Cur B cur → Calls Try.prog 11 #[tmv (.slice x1 x2 x3) t.kind t.idx (.slice y1 y2 y3)] cur fun e w' => ∃ a1 a2 a3 b1 b2 b3, e = .returned (tmv (.slice a1 a2 a3) t.kind t.idx (.slice b1 b2 b3)) ∧ Holds w' okT t.binds (.slice a1 a2 a3) ∧ HoldsT w' okT t.args (.slice b1 b2 b3) ∧ Cur B w' := fun cur hc =>
    (ToT_calls t okT _ _ cur (hc.holds hb4) (hr4.bel hc) htt).mono fun e w' ⟨vb, vr, g1, g2, g3, g4⟩ => by
      obtain ⟨a1, a3, rfl, _⟩ := g2.shape
      obtain ⟨b1, b3, rfl, _⟩ := g3.shape
      exact ⟨a1, _, a3, b1, _, b3, g1, g2.t, g3.t, hc.then g4⟩
  have q51 : ∀ cur s1 s2, Cur B cur → Holds cur okT t.binds s1 → HoldsT cur okT t.args s2 → Calls Try.prog 51 #[tmv s1 t.kind t.idx s2] cur fun e w' => ∃ a1 a2 a3 b1 b2 b3, e = .returned (tmv (.slice a1 a2 a3) t.kind t.idx (.slice b1 b2 b3)) ∧ Holds w' okT [] (.slice a1 a2 a3) ∧ HoldsT w' okT t.args (.slice b1 b2 b3) ∧ Cur B w' := fun cur s1 s2 hc h1 h2 =>
    (BodyT_calls t okT s1 s2 cur h1 h2 htt).mono fun e w' ⟨vb, vr, g1, g2, g3, g4⟩ => by
      obtain ⟨a1, a3, rfl, _⟩ := g2.shape
      obtain ⟨b1, b3, rfl, _⟩ := g3.shape
      exact ⟨a1, _, a3, b1, _, b3, g1, g2.t, g3.t, hc.then g4⟩
  have q52 : ∀ cur s1 s2, Cur B cur → Holds cur okT t.binds s1 → HoldsT cur okT t.args s2 → Calls Try.prog 52 #[tmv s1 t.kind t.idx s2] cur fun e w' => ∃ a1 a2 a3 b1 b2 b3, e = .returned (tmv (.slice a1 a2 a3) t.kind t.idx (.slice b1 b2 b3)) ∧ Holds w' okT t.binds (.slice a1 a2 a3) ∧ HoldsT w' okT t.args (.slice b1 b2 b3) ∧ Cur B w' := fun cur s1 s2 hc h1 h2 =>
    (CopyT_calls t okT s1 s2 cur h1 h2 htt).mono fun e w' ⟨vb, vr, g1, g2, g3, g4⟩ => by
      obtain ⟨a1, a3, rfl, _⟩ := g2.shape
      obtain ⟨b1, b3, rfl, _⟩ := g3.shape
      exact ⟨a1, _, a3, b1, _, b3, g1, g2.t, g3.t, hc.then g4⟩
  have q26b : ∀ cur s1 s2, Cur B cur → Holds cur okT t.binds s1 → HoldsT cur okT t.args s2 → Calls Try.prog 26 #[tmv s1 t.kind t.idx s2] cur fun e w' => ∃ a1 a2 a3 b1 b2 b3, e = .returned (tmv (.slice a1 a2 a3) t.kind t.idx (.slice b1 b2 b3)) ∧ Holds w' okT t.binds (.slice a1 a2 a3) ∧ HoldsT w' okT t.args (.slice b1 b2 b3) ∧ Cur B w' := fun cur s1 s2 hc h1 h2 =>
    (OfT_calls t okT s1 s2 cur h1 h2 htt).mono fun e w' ⟨vb, vr, g1, g2, g3, g4⟩ => by
      obtain ⟨a1, a3, rfl, _⟩ := g2.shape
      obtain ⟨b1, b3, rfl, _⟩ := g3.shape
      exact ⟨a1, _, a3, b1, _, b3, g1, g2.t, g3.t, hc.then g4⟩
  have q26a : ∀ cur s1 s2, Cur B cur → Holds cur okT [] s1 → HoldsT cur okT t.args s2 → Calls Try.prog 26 #[tmv s1 t.kind t.idx s2] cur fun e w' => ∃ a1 a2 a3 b1 b2 b3, e = .returned (tmv (.slice a1 a2 a3) t.kind t.idx (.slice b1 b2 b3)) ∧ Holds w' okT [] (.slice a1 a2 a3) ∧ HoldsT w' okT t.args (.slice b1 b2 b3) ∧ Cur B w' := fun cur s1 s2 hc h1 h2 => by
    have h9 := OfT_calls (.mk [] t.kind t.idx t.args) okT s1 s2 cur h1 h2 hbt
    have h8 : Calls Try.prog 26 #[tmv s1 t.kind t.idx s2] cur fun e w' => ∃ vb vr, e = .returned (tmv vb t.kind t.idx vr) ∧ Holds w' (fun b => cur.heap.size ≤ b) [] vb ∧ HoldsT w' (fun b => cur.heap.size ≤ b) t.args vr ∧ Below cur.heap.size cur w' := h9
    exact h8.mono fun e w' ⟨vb, vr, g1, g2, g3, g4⟩ => by
      obtain ⟨a1, a3, rfl, _⟩ := g2.shape
      obtain ⟨b1, b3, rfl, _⟩ := g3.shape
      exact ⟨a1, _, a3, b1, _, b3, g1, g2.t, g3.t, hc.then g4⟩
  have q25b : ∀ cur s1 s2, Cur B cur → Holds cur okT t.binds s1 → HoldsT cur okT t.args s2 → Calls Try.prog 25 #[tmv s1 t.kind t.idx s2, tmv (.slice x1 x2 x3) t.kind t.idx (.slice y1 y2 y3)] cur fun e w' => e = .returned (.bool true) ∧ Cur B w' := fun cur s1 s2 hc h1 h2 => by
    have h9 := SameTm_calls t t okT okT s1 s2 _ _ cur h1 h2 (hc.holds hb4) (hr4.bel hc) htt
    rw [t.same_self] at h9
    exact h9.mono fun e w' ⟨g1, g2⟩ => ⟨g1, hc.then g2⟩
  have q25a : ∀ cur s1 s2, Cur B cur → Holds cur okT [] s1 → HoldsT cur okT t.args s2 → Calls Try.prog 25 #[tmv s1 t.kind t.idx s2, tmv (.slice none 0 0) t.kind t.idx (.slice y1 y2 y3)] cur fun e w' => e = .returned (.bool true) ∧ Cur B w' := fun cur s1 s2 hc h1 h2 => by
    have h9 := SameTm_calls (.mk [] t.kind t.idx t.args) (.mk [] t.kind t.idx t.args) okT okT s1 s2 (.slice none 0 0) (.slice y1 y2 y3) cur h1 h2 (Holds.nil _ _ _ _ (fun _ => rfl)) (hr4.bel hc) hbt
    rw [Tm.same_self] at h9
    exact h9.mono fun e w' ⟨g1, g2⟩ => ⟨g1, hc.then g2⟩
  have hcur := Cur.refl B
  have bl4 : Below N w B := bl3.trans (Below.mono hcB (by omega))
  have hs4 : N ≤ B.heap.size := by have := bA.lt; have := bl4.size; have := n2.lt; omega
  clear hb4 hr4 n2 bA
  go_region_held3 (fun v => v.cell? ⟨N + 2, 0, none⟩ = some (.slice x1 x2 x3) ∧ v.cell? ⟨N + 2, 1, none⟩ = some (.int .i64 t.kind) ∧ v.cell? ⟨N + 2, 2, none⟩ = some (.int .i64 t.idx) ∧ v.cell? ⟨N + 2, 3, none⟩ = some (.slice y1 y2 y3) ∧ v.cell? ⟨A, 0, none⟩ = some (.slice none 0 0) ∧ v.cell? ⟨A, 1, none⟩ = some (.int .i64 t.kind) ∧ v.cell? ⟨A, 2, none⟩ = some (.int .i64 t.idx) ∧ v.cell? ⟨A, 3, none⟩ = some (.slice y1 y2 y3))
    (first | with_reducible exact hK _ (by first | with_reducible assumption | (with_reducible refine Cur.drew ?_; assumption)))
    (first
      | (go_at_call 10; refine (q10 _ (by first | with_reducible assumption | (with_reducible refine Cur.drew ?_; assumption))).mono ?_; rintro e v0 ⟨rfl, i0⟩)
      | (go_at_call 11; refine (q11 _ j25).mono ?_; rintro e v5 ⟨a11, a12, a13, b11, b12, b13, rfl, h11b, h11bt, i11b⟩)
      | (go_at_call 11; refine (q11 _ (by first | with_reducible assumption | (with_reducible refine Cur.drew ?_; assumption))).mono ?_; rintro e v1 ⟨a1, a2, a3, b1, b2, b3, rfl, h11a, h11at, i11a⟩)
      | (go_at_call 51; refine (q51 _ _ _ (by first | with_reducible assumption | (with_reducible refine Cur.drew ?_; assumption)) h11a h11at).mono ?_; rintro e v2 ⟨a4, a5, a6, b4, b5, b6, rfl, h51, h51t, i51⟩)
      | (go_at_call 52; refine (q52 _ _ _ (by first | with_reducible assumption | (with_reducible refine Cur.drew ?_; assumption)) h11b h11bt).mono ?_; rintro e v6 ⟨a14, a15, a16, b14, b15, b16, rfl, h52, h52t, i52⟩)
      | (go_at_call 26; refine (q26b _ _ _ (by first | with_reducible assumption | (with_reducible refine Cur.drew ?_; assumption)) h52 h52t).mono ?_; rintro e v7 ⟨a17, a18, a19, b17, b18, b19, rfl, h26b, h26bt, i26b⟩)
      | (go_at_call 26; refine (q26a _ _ _ (by first | with_reducible assumption | (with_reducible refine Cur.drew ?_; assumption)) h51 h51t).mono ?_; rintro e v3 ⟨a7, a8, a9, b7, b8, b9, rfl, h26a, h26at, i26a⟩)
      | (go_at_call 25; refine (q25b _ _ _ (by first | with_reducible assumption | (with_reducible refine Cur.drew ?_; assumption)) h26b h26bt).mono ?_; rintro e v8 ⟨rfl, j25b⟩)
      | (go_at_call 25; refine (q25a _ _ _ (by first | with_reducible assumption | (with_reducible refine Cur.drew ?_; assumption)) h26a h26at).mono ?_; rintro e v4 ⟨rfl, j25⟩))
  go_wp2
  go_ret
  exact ⟨rfl, bl4.trans (Below.mono j25b hs4)⟩

end Go.Proofs.Ytheokboggjnenaa
