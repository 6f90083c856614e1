/-
  The contracts of term.canShift and term.Shift.
-/
import Derived.Test.YtheokboggjnenaaShiftT
namespace Go.Proofs.Ytheokboggjnenaa
open Go Go.RowKit

theorem errI_lo (gy fr : Int) (l : List Hd) : 0 ≤ errI gy fr l ∧ errI gy fr l ≤ 2 := by
  unfold errI
  split
  · omega
  · split <;> omega
theorem shiftE_lo (gy fr : Int) (t : Tm) : 0 ≤ shiftE gy fr t ∧ shiftE gy fr t ≤ 2 := by
  unfold shiftE
  have := errI_lo gy fr (t.heads 1 0)
  split <;> omega
theorem grows_of {gy fr : Int} {t : Tm} (hrg : t.rng) (htt : t.total ≤ 1000000) (h : shiftE gy fr t = 0) : 0 ≤ fr ∧ ∀ p ∈ t.heads 1 0, grows gy fr p := by
  unfold shiftE at h
  by_cases h0 : fr < 0
  · rw [if_pos h0] at h; omega
  · rw [if_neg h0] at h
    refine ⟨by omega, fun p hp => ⟨(rng_heads t hrg 1 0 p hp).2, fun i hi hfi => ?_⟩⟩
    have hi9 := (rng_heads t hrg 1 0 p hp).2
    have har := around_heads t 1 0 p hp
    unfold errI at h
    cases hb : badB gy fr (t.heads 1 0) with
    | true => rw [hb] at h; simp at h
    | false =>
      cases hl : longB gy fr (t.heads 1 0) with
      | true => rw [hb, hl] at h; simp at h
      | false =>
        unfold badB at hb
        unfold longB at hl
        rw [List.any_eq_false] at hb hl
        have h1 := hb p hp
        have h2 := hl p hp
        rw [hi] at h1 h2
        simp at h1 h2
        have h3 := h1 hfi
        have h4 := h2 hfi
        unfold Hd.out at hi
        by_cases hk : p.kind = 0 ∧ (p.around : Int) ≤ p.idx
        · rw [if_pos hk] at hi
          simp at hi
          unfold fits
          omega
        · rw [if_neg hk] at hi
          cases hi

set_option maxRecDepth 100000 in
set_option maxHeartbeats 1000000 in
theorem canShift_neg (t : Tm) (gy fr : Int) (ok : Nat → Prop) (sb sl : Value) (w : World) (hb : Holds w ok t.binds sb) (hh : HoldsT w ok t.args sl) (hfr : fr < 0) :
    Calls Try.prog 83 #[tmv sb t.kind t.idx sl, .int .i64 gy, .int .i64 fr] w fun e w' => e = .returned (.int .i64 1) ∧ Below w.heap.size w w' := by
  obtain ⟨x1, x2, rfl, _⟩ := hb.shape
  obtain ⟨x3, x4, rfl, _⟩ := hh.shape
  generalize t.binds.length = bn at *
  generalize t.args.length = an at *
  have zfr : decide (fr < 0) = true := decide_eq_true hfr
  obtain ⟨N, hN⟩ : ∃ N, w.heap.size = N := ⟨_, rfl⟩
  rw [hN]
  obtain ⟨W0, hW0⟩ : ∃ W0, (((w.alloc (.cells #[.slice x1 bn x2, .int .i64 t.kind, .int .i64 t.idx, .slice x3 an x4] 34)).alloc (.cells #[.int .i64 gy] 3)).alloc (.cells #[.int .i64 fr] 3)).alloc (.cells #[.int .i64 0] 64) = W0 := ⟨_, rfl⟩
  have b2 : Blk W0 (N + 1 + 1) 3 #[.int .i64 fr] := by rw [← hW0]; exact (Blk.new' _ (N + 1 + 1) 3 _ (by simp [hN])).alloc _
  have b3 : Blk W0 (N + 1 + 1 + 1) 64 #[.int .i64 0] := by rw [← hW0]; exact Blk.new' _ (N + 1 + 1 + 1) 64 _ (by simp [hN])
  have hbl : Below N w W0 := by rw [← hW0]; exact ((((Below.refl N w).alloc (by omega) _).alloc (by simp; omega) _).alloc (by simp; omega) _).alloc (by simp; omega) _
  have HW : Hid _ := hW0
  have c0 := b2.cell 0
  have c1 := b3.cell 0
  have f1 := b3.frozen 0
  have s3 := b3.set 0 (.int .i64 1)
  have sb : Below N w (W0.setCell ⟨N + 1 + 1 + 1, 0, none⟩ (.int .i64 1)) := bset hbl (by omega) _
  clear hW0
  go_enter Try.func83, Try.ntmps83
  go_upto_region 1 with fail
  rw [HW.out]
  clear HW
  go_wp2
  generalize W0.setCell ⟨N + 1 + 1 + 1, 0, none⟩ (.int .i64 1) = W3 at *
  have e1 : W3.cell? ⟨N + 1 + 1 + 1, 0, none⟩ = some (.int .i64 1) := s3.cell 0
  exact bodyPost_ret (v := .int .i64 1) (by simp [results, Try.results83, go_sem, e1]) rfl ⟨rfl, sb⟩
theorem canShift_calls (t : Tm) (gy fr : Int) (ok : Nat → Prop) (sb sl : Value) (w : World) (hb : Holds w ok t.binds sb) (hh : HoldsT w ok t.args sl) (hsz : t.total ≤ 900000) (hrg : t.rng) (hff : fits fr) (hgf : fits gy) :
    Calls Try.prog 83 #[tmv sb t.kind t.idx sl, .int .i64 gy, .int .i64 fr] w fun e w' => e = .returned (.int .i64 (shiftE gy fr t)) ∧ Below w.heap.size w w' := by
  unfold shiftE
  by_cases h : fr < 0
  · rw [if_pos h]
    exact canShift_neg t gy fr ok sb sl w hb hh h
  · rw [if_neg h]
    exact canShift_pos gy fr t ok sb sl w hb hh hsz hrg (by omega) hff hgf

/-- What Shift hands back beside its error. -/
def shiftT (gy fr : Int) (t : Tm) : Tm := if shiftE gy fr t = 0 then shT gy fr 0 t else .mk [] 0 0 []

set_option maxRecDepth 100000 in
set_option maxHeartbeats 1000000 in
theorem ShiftT_calls (t : Tm) (gy fr : Int) (ok : Nat → Prop) (sb sl : Value) (w : World) (hb : Holds w ok t.binds sb) (hh : HoldsT w ok t.args sl) (hsz : t.total ≤ 900000) (hrg : t.rng) (hff : fits fr) (hgf : fits gy) :
    Calls Try.prog 45 #[tmv sb t.kind t.idx sl, .int .i64 gy, .int .i64 fr] w fun e w' => ∃ vb vr, e = .returned (.tuple #[tmv vb (shiftT gy fr t).kind (shiftT gy fr t).idx vr, .int .i64 (shiftE gy fr t)]) ∧ Holds w' (fun b => w.heap.size ≤ b) (shiftT gy fr t).binds vb ∧ HoldsT w' (fun b => w.heap.size ≤ b) (shiftT gy fr t).args vr ∧ Below w.heap.size w w' := by
  have hR0 : Hid (shiftE gy fr t ≠ 0 → shiftT gy fr t = .mk [] 0 0 []) := fun h => by unfold shiftT; rw [if_neg h]
  have hR1 : Hid (shiftE gy fr t = 0 → shiftT gy fr t = shT gy fr 0 t) := fun h => by unfold shiftT; rw [if_pos h]
  have hgr : Hid (shiftE gy fr t = 0 → 0 ≤ fr ∧ ∀ p ∈ t.heads 1 0, grows gy fr p) := fun h => grows_of hrg (by omega) h
  obtain ⟨x1, x2, rfl, _⟩ := hb.shape
  obtain ⟨x3, x4, rfl, _⟩ := hh.shape
  obtain ⟨bn, hbn⟩ : ∃ n, t.binds.length = n := ⟨_, rfl⟩
  obtain ⟨an, han⟩ : ∃ n, t.args.length = n := ⟨_, rfl⟩
  rw [hbn] at hb ⊢
  rw [han] at hh ⊢
  obtain ⟨N, hN⟩ : ∃ N, w.heap.size = N := ⟨_, rfl⟩
  obtain ⟨W0, hW0⟩ : ∃ W0, (((w.alloc (.cells #[.slice x1 bn x2, .int .i64 t.kind, .int .i64 t.idx, .slice x3 an x4] 34)).alloc (.cells #[.int .i64 gy] 3)).alloc (.cells #[.int .i64 fr] 3)).alloc (.cells #[.slice none 0 0, .int .i64 0, .int .i64 0, .slice none 0 0] 34) = W0 := ⟨_, rfl⟩
  have b0 : Blk W0 N 34 #[.slice x1 bn x2, .int .i64 t.kind, .int .i64 t.idx, .slice x3 an x4] := by rw [← hW0]; exact (((Blk.new' _ N 34 _ hN).alloc _).alloc _).alloc _
  have b1 : Blk W0 (N + 1) 3 #[.int .i64 gy] := by rw [← hW0]; exact ((Blk.new' _ (N + 1) 3 _ (by simp [hN])).alloc _).alloc _
  have b2 : Blk W0 (N + 1 + 1) 3 #[.int .i64 fr] := by rw [← hW0]; exact (Blk.new' _ (N + 1 + 1) 3 _ (by simp [hN])).alloc _
  have b3 : Blk W0 (N + 1 + 1 + 1) 34 #[.slice none 0 0, .int .i64 0, .int .i64 0, .slice none 0 0] := by rw [← hW0]; exact Blk.new' _ (N + 1 + 1 + 1) 34 _ (by simp [hN])
  have hz0 : W0.heap.size = N + 4 := by rw [← hW0]; simp [hN]
  have hbl : Below N w W0 := by rw [← hW0]; exact ((((Below.refl N w).alloc (by omega) _).alloc (by simp; omega) _).alloc (by simp; omega) _).alloc (by simp; omega) _
  have hb0 := hb.bel (hN ▸ hbl)
  have hh0 := hh.bel (hN ▸ hbl)
  have hcall := canShift_calls t gy fr ok (.slice x1 t.binds.length x2) (.slice x3 t.args.length x4) W0 (by rw [hbn]; exact hb0) (by rw [han]; exact hh0) hsz hrg hff hgf
  rw [hbn, han] at hcall
  obtain ⟨E, hE⟩ : ∃ E, shiftE gy fr t = E := ⟨_, rfl⟩
  rw [hE] at hcall hR0 hR1 hgr
  have HE : Hid _ := hE
  have HW : Hid _ := hW0
  have c0 := b0.cell 0
  have c1 := b0.cell 1
  have c2 := b0.cell 2
  have c3 := b0.cell 3
  have d1 := b1.cell 0
  have d2 := b2.cell 0
  rw [hN]
  clear hW0 hE hb hh hrg hff hgf
  go_enter Try.func45, Try.ntmps45
  go_upto_region 1 with fail
  rw [HW.out]
  clear HW
  go_wp2_with fail
  refine hcall.mono ?_
  clear hcall
  rintro e w1 ⟨rfl, hb1⟩
  have a0 := b0.below hb1 b0.lt
  have a1 := b1.below hb1 b1.lt
  have a2 := b2.below hb1 b2.lt
  have a3 := b3.below hb1 b3.lt
  have hb1' := hb0.bel hb1
  have hh1' := hh0.bel hb1
  have hbl1 : Below N w w1 := hbl.trans (hb1.mono (by omega))
  have hs1 := hb1.size
  clear b0 b1 b2 b3 c0 c1 c2 c3 d1 d2 hb0 hh0 hb1 hbl
  by_cases h0 : E = 0
  · subst h0
    have hg := hgr.out rfl
    have HR := hR1.out rfl
    have HRR : Hid _ := HR
    have c0 := a0.cell 0
    have c1 := a0.cell 1
    have c2 := a0.cell 2
    have c3 := a0.cell 3
    have hcall := turnS_calls gy fr (N + 1 + 1) (N + 1) t 1 0 ok _ _ w1 (a2.cell 0) (a1.cell 0) hg.2 hb1' hh1' (by omega) (by omega)
    have hmf : ∀ (fn : Fn) (first cap : Array Value) (w : World), (Instr.makeFunc fn first cap).run Try.prog w = .ok (.func fn first cap) w := fun _ _ _ _ => rfl
    rw [show ((0 : Nat) : Int) = 0 from rfl] at hcall
    clear hR0 hR1 hgr hg HR a0 a1 a2 hb1' hh1'
    go_wp2_with fail
    refine hcall.mono ?_
    clear hcall
    rintro e w2 ⟨vb, vr, rfl, q1, q2, hb2⟩
    obtain ⟨y1, y2, rfl, _⟩ := q1.shape
    obtain ⟨y3, y4, rfl, _⟩ := q2.shape
    have hul : (t.args.map (shT gy fr (0 + t.binds.length))).length = an := by rw [List.length_map]; exact han
    rw [hul] at q2 ⊢
    rw [hbn] at q1 ⊢
    have HR2 : Hid ((shT gy fr 0 t).idx = shH gy fr t.kind t.idx (0 + t.binds.length)) := shT_idx _ _ _ _
    obtain ⟨ki, hki⟩ : ∃ x, shH gy fr t.kind t.idx (0 + t.binds.length) = x := ⟨_, rfl⟩
    rw [hbn] at hki
    rw [hki]
    have HKI : Hid _ := hki
    have m9 := a3.below hb2 a3.lt
    have e0 := m9.cell 0
    have e1 := m9.cell 1
    have e2 := m9.cell 2
    have e3 := m9.cell 3
    have f0 := m9.frozen 0
    have f1 := m9.frozen 1
    have f2 := m9.frozen 2
    have f3 := m9.frozen 3
    have hs2 := hb2.size
    have b9 := (((m9.set 0 (.slice y1 bn y2)).set 1 (.int .i64 t.kind)).set 2 (.int .i64 ki)).set 3 (.slice y3 an y4)
    have r1 := holds_set4 (g := N + 1 + 1 + 1) (ok' := fun b => N ≤ b) q1 (fun b _ h => ⟨by have := a3.lt; omega, by omega⟩) (.slice y1 bn y2) (.int .i64 t.kind) (.int .i64 ki) (.slice y3 an y4)
    have r2 := holdsT_z (g := N + 1 + 1 + 1) (ok' := fun b => N ≤ b) q2 (fun b _ h => ⟨by have := a3.lt; omega, by omega⟩) (.slice y1 bn y2) (.int .i64 t.kind) (.int .i64 ki) (.slice y3 an y4)
    have r3 : Below N w ((((w2.setCell ⟨N + 1 + 1 + 1, 0, none⟩ (.slice y1 bn y2)).setCell ⟨N + 1 + 1 + 1, 1, none⟩ (.int .i64 t.kind)).setCell ⟨N + 1 + 1 + 1, 2, none⟩ (.int .i64 ki)).setCell ⟨N + 1 + 1 + 1, 3, none⟩ (.slice y3 an y4)) := bset (bset (bset (bset (hbl1.trans (hb2.mono (by omega))) (by omega) _) (by omega) _) (by omega) _) (by omega) _
    clear q1 q2 m9 a3 hki hul
    go_wp2
    generalize (((w2.setCell ⟨N + 1 + 1 + 1, 0, none⟩ (.slice y1 bn y2)).setCell ⟨N + 1 + 1 + 1, 1, none⟩ (.int .i64 t.kind)).setCell ⟨N + 1 + 1 + 1, 2, none⟩ (.int .i64 ki)).setCell ⟨N + 1 + 1 + 1, 3, none⟩ (.slice y3 an y4) = W5 at *
    have g0 : W5.cell? ⟨N + 1 + 1 + 1, 0, none⟩ = some (.slice y1 bn y2) := b9.cell 0
    have g1 : W5.cell? ⟨N + 1 + 1 + 1, 1, none⟩ = some (.int .i64 t.kind) := b9.cell 1
    have g2 : W5.cell? ⟨N + 1 + 1 + 1, 2, none⟩ = some (.int .i64 ki) := b9.cell 2
    have g3 : W5.cell? ⟨N + 1 + 1 + 1, 3, none⟩ = some (.slice y3 an y4) := b9.cell 3
    refine bodyPost_ret (v := .tuple #[tmv (.slice y1 bn y2) t.kind ki (.slice y3 an y4), .int .i64 0]) (by simp [results, Try.results45, go_sem, g0, g1, g2, g3]) rfl ⟨.slice y1 bn y2, .slice y3 an y4, ?_, ?_, ?_, r3⟩
    · rw [HRR.out, HR2.out, shT_kind, HE.out, hbn, HKI.out]
    · rw [HRR.out, shT_binds]; exact r1
    · rw [HRR.out, shT_args]; exact r2
  · have z0 : (E != 0) = true := by simp [h0]
    have HR := hR0.out h0
    have HRR : Hid _ := HR
    have e0 := a3.cell 0
    have e1 := a3.cell 1
    have e2 := a3.cell 2
    have e3 := a3.cell 3
    have f0 := a3.frozen 0
    have f1 := a3.frozen 1
    have f2 := a3.frozen 2
    have f3 := a3.frozen 3
    have b9 := (((a3.set 0 (.slice none 0 0)).set 1 (.int .i64 0)).set 2 (.int .i64 0)).set 3 (.slice none 0 0)
    have r3 : Below N w ((((w1.setCell ⟨N + 1 + 1 + 1, 0, none⟩ (.slice none 0 0)).setCell ⟨N + 1 + 1 + 1, 1, none⟩ (.int .i64 0)).setCell ⟨N + 1 + 1 + 1, 2, none⟩ (.int .i64 0)).setCell ⟨N + 1 + 1 + 1, 3, none⟩ (.slice none 0 0)) := bset (bset (bset (bset hbl1 (by omega) _) (by omega) _) (by omega) _) (by omega) _
    clear hR0 hR1 hgr HR a0 a1 a2 a3 hb1' hh1' h0
    go_wp2
    generalize (((w1.setCell ⟨N + 1 + 1 + 1, 0, none⟩ (.slice none 0 0)).setCell ⟨N + 1 + 1 + 1, 1, none⟩ (.int .i64 0)).setCell ⟨N + 1 + 1 + 1, 2, none⟩ (.int .i64 0)).setCell ⟨N + 1 + 1 + 1, 3, none⟩ (.slice none 0 0) = W5 at *
    have g0 : W5.cell? ⟨N + 1 + 1 + 1, 0, none⟩ = some (.slice none 0 0) := b9.cell 0
    have g1 : W5.cell? ⟨N + 1 + 1 + 1, 1, none⟩ = some (.int .i64 0) := b9.cell 1
    have g2 : W5.cell? ⟨N + 1 + 1 + 1, 2, none⟩ = some (.int .i64 0) := b9.cell 2
    have g3 : W5.cell? ⟨N + 1 + 1 + 1, 3, none⟩ = some (.slice none 0 0) := b9.cell 3
    refine bodyPost_ret (v := .tuple #[tmv (.slice none 0 0) 0 0 (.slice none 0 0), .int .i64 E]) (by simp [results, Try.results45, go_sem, g0, g1, g2, g3]) rfl ⟨.slice none 0 0, .slice none 0 0, ?_, ?_, ?_, r3⟩
    · rw [HRR.out, HE.out]; rfl
    · rw [HRR.out]; exact Holds.nil _ _ _ _ (fun _ => rfl)
    · rw [HRR.out]; exact HoldsT.nil _ _ _ _ (fun _ => rfl)

end Go.Proofs.Ytheokboggjnenaa

/-
  Grown and grown back: a term is what it was.
-/
namespace Go.Proofs.Ytheokboggjnenaa

theorem shL_len (gy fr : Int) (b : Nat) (l : List Tm) : (l.map (shT gy fr b)).length = l.length := List.length_map _
theorem totalT_map (f : Tm → Tm) (l : List Tm) (h : ∀ t ∈ l, (f t).total = t.total) : totalT (l.map f) = totalT l := by
  induction l with
  | nil => rfl
  | cons t r ih => simp only [List.map_cons, totalT, h t (by simp), ih (fun u hu => h u (by simp [hu]))]
theorem shT_total (gy fr : Int) (t : Tm) : ∀ b, (shT gy fr b t).total = t.total := by
  induction t using Tm.ind with
  | h t ih =>
    intro b
    rw [Tm.total_eq, Tm.total_eq t, shT_binds, shT_args, totalT_map _ _ (fun u hu => ih u hu _)]
/-- What becomes of a head. -/
def shP (gy fr : Int) (p : Hd) : Hd := { p with idx := shH gy fr p.kind p.idx p.around }
theorem headsT_map (gy fr : Int) (d b : Nat) (l : List Tm) (h : ∀ t ∈ l, (shT gy fr b t).heads d b = (t.heads d b).map (shP gy fr)) : headsT d b (l.map (shT gy fr b)) = (headsT d b l).map (shP gy fr) := by
  induction l with
  | nil => rfl
  | cons t r ih => simp only [List.map_cons, headsT, h t (by simp), ih (fun u hu => h u (by simp [hu])), List.map_append]
theorem shT_heads (gy fr : Int) (t : Tm) : ∀ d b, (shT gy fr b t).heads d b = (t.heads d b).map (shP gy fr) := by
  induction t using Tm.ind with
  | h t ih =>
    intro d b
    rw [Tm.heads_eq, t.heads_eq, shT_binds, shT_kind, shT_idx, shT_args, headsT_map gy fr _ _ _ (fun u hu => ih u hu _ _)]
    rfl
theorem shT_rng (gy fr : Int) (t : Tm) : ∀ d b, t.rng → (∀ p ∈ t.heads d b, grows gy fr p) → (shT gy fr b t).rng := by
  induction t using Tm.ind with
  | h t ih =>
    intro d b hr hg
    rw [Tm.rng_eq] at hr ⊢
    have h1 := hg ⟨d, b + t.binds.length, t.kind, t.idx⟩ (by rw [t.heads_eq]; simp)
    refine ⟨⟨by rw [shT_kind]; exact hr.1.1, ?_⟩, ?_⟩
    · rw [shT_idx]
      unfold shH
      split
      · rename_i h
        exact h1.2 (t.idx - ((b + t.binds.length : Nat) : Int)) (by unfold Hd.out; rw [if_pos ⟨h.1, h.2.1⟩]) h.2.2
      · exact h1.1
    · rw [shT_args, rngT_iff]
      intro u hu
      obtain ⟨v, hv, rfl⟩ := List.mem_map.1 hu
      exact ih v hv (d + 1) _ ((rngT_iff _).1 hr.2 v hv) (grows_arg hg hv)
theorem shH_back (gy fr k i : Int) (b : Nat) (h : 0 ≤ gy) : shH (-gy) fr k (shH gy fr k i b) b = i := by
  unfold shH
  by_cases h1 : k = 0 ∧ (b : Int) ≤ i ∧ fr ≤ i - b
  · rw [if_pos h1, if_pos ⟨h1.1, by omega, by omega⟩]
    omega
  · rw [if_neg h1, if_neg h1]
theorem shT_back (gy fr : Int) (h : 0 ≤ gy) (t : Tm) : ∀ b, shT (-gy) fr b (shT gy fr b t) = t := by
  induction t using Tm.ind with
  | h t ih =>
    intro b
    rw [(shT (-gy) fr b (shT gy fr b t)).eta, shT_binds, shT_kind, shT_idx, shT_args, shT_binds, shT_kind, shT_idx, shT_args, shH_back gy fr _ _ _ h, List.map_map]
    conv => rhs; rw [t.eta]
    congr 1
    refine (List.map_congr_left (g := id) fun u hu => ih u hu _).trans (List.map_id _)
/-- Where a term may grow, and all that is loose in it lies below the limit, it may be grown back. -/
theorem shift_back (gy fr : Int) (t : Tm) (h : 0 ≤ gy) (h0 : shiftE gy fr t = 0) (hl : looseI t ≤ 1000) : shiftE (-gy) fr (shT gy fr 0 t) = 0 := by
  have hlo : ∀ p ∈ t.heads 1 0, p.lo ≤ 1000 := by
    have : ∀ l : List Hd, lmax l ≤ 1000 → ∀ p ∈ l, p.lo ≤ 1000 := by
      intro l
      induction l with
      | nil => intro _ p hp; cases hp
      | cons q r ih =>
        intro hm p hp
        simp only [lmax] at hm
        rcases List.mem_cons.1 hp with rfl | hp
        · omega
        · exact ih (by omega) p hp
    exact this _ hl
  have hfr : ¬ fr < 0 := fun hf => by unfold shiftE at h0; rw [if_pos hf] at h0; omega
  unfold shiftE at h0 ⊢
  rw [if_neg hfr] at h0 ⊢
  rw [shT_heads]
  have key : ∀ p ∈ t.heads 1 0, ∀ i, (shP gy fr p).out = some i → fr ≤ i → fr + gy ≤ i ∧ i - gy ≤ 999 := by
    intro p hp i hi hfi
    have hlp := hlo p hp
    unfold Hd.lo at hlp
    unfold Hd.out at hi hlp
    by_cases hk : p.kind = 0 ∧ (p.around : Int) ≤ p.idx
    · rw [if_pos hk] at hlp
      simp only at hlp
      have e : (shP gy fr p).idx = shH gy fr p.kind p.idx p.around := rfl
      have e2 : (shP gy fr p).kind = p.kind := rfl
      have e3 : (shP gy fr p).around = p.around := rfl
      rw [e, e2, e3] at hi
      by_cases h2 : fr ≤ p.idx - p.around
      · have hs : shH gy fr p.kind p.idx p.around = p.idx + gy := by unfold shH; rw [if_pos ⟨hk.1, hk.2, h2⟩]
        rw [hs, if_pos ⟨hk.1, by omega⟩] at hi
        simp at hi
        omega
      · have hs : shH gy fr p.kind p.idx p.around = p.idx := by unfold shH; rw [if_neg (fun h => h2 h.2.2)]
        rw [hs, if_pos hk] at hi
        simp at hi
        omega
    · have e : (shP gy fr p).idx = shH gy fr p.kind p.idx p.around := rfl
      have e2 : (shP gy fr p).kind = p.kind := rfl
      have e3 : (shP gy fr p).around = p.around := rfl
      have hs : shH gy fr p.kind p.idx p.around = p.idx := by unfold shH; rw [if_neg (fun h => hk ⟨h.1, h.2.1⟩)]
      rw [e, e2, e3, hs, if_neg hk] at hi
      cases hi
  unfold errI
  have hb : badB (-gy) fr ((t.heads 1 0).map (shP gy fr)) = false := by
    unfold badB
    rw [List.any_eq_false]
    intro q hq
    obtain ⟨p, hp, rfl⟩ := List.mem_map.1 hq
    cases ho : (shP gy fr p).out with
    | none => simp
    | some i =>
      simp only [Bool.and_eq_true, decide_eq_true_eq, not_and]
      intro h1
      have := (key p hp i ho h1).1
      omega
  have hlg : longB (-gy) fr ((t.heads 1 0).map (shP gy fr)) = false := by
    unfold longB
    rw [List.any_eq_false]
    intro q hq
    obtain ⟨p, hp, rfl⟩ := List.mem_map.1 hq
    cases ho : (shP gy fr p).out with
    | none => simp
    | some i =>
      simp only [Bool.and_eq_true, decide_eq_true_eq, not_and]
      intro h1
      have := (key p hp i ho h1).2
      omega
  rw [hb, hlg]
  rfl

end Go.Proofs.Ytheokboggjnenaa
