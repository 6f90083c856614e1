/-
  The contracts of term.compare, of its closure, and of term.Compare.
-/
import Derived.Test.YtheokboggjnenaaCmpTm
namespace Go.Proofs.Ytheokboggjnenaa
open Go Go.RowKit Go.Sort

/-- compare's own word of one term -/
def CmpTAt (t : Tm) : Prop := ∀ (t' : Tm) (ok : Nat → Prop) (sb sl sb' sl' va vb : Value) (w : World), Holds w ok t.binds sb → HoldsT w ok t.args sl → Holds w ok t'.binds sb' → HoldsT w ok t'.args sl' → IntsAt w va t.szs → IntsAt w vb t'.szs → t.total ≤ 900000 → t'.total ≤ 900000 →
    Calls Try.prog 65 #[tmv sb t.kind t.idx sl, tmv sb' t'.kind t'.idx sl', va, vb] w fun e w' => e = .returned (.int .i64 (t.cmp t')) ∧ Below w.heap.size w w'

set_option maxRecDepth 100000 in
set_option maxHeartbeats 3200000 in
theorem cmp1_calls (t t' : Tm) (va vb : Value) (A P Q : Nat) (Wp W0 : World) (hWp : Wp.heap.size ≤ P) (hb0 : Below Wp.heap.size Wp W0) (hAP : A < P) (hQP : Q < P) (hA : Blk W0 A 41 #[va]) (hQ : Blk W0 Q 41 #[vb]) (hva : IntsAt Wp va t.szs) (hvb : IntsAt Wp vb t'.szs) (ht : t.total ≤ 900000) (ht' : t'.total ≤ 900000) (IH : ∀ u ∈ t.args, CmpTAt u) :
    CmpStep t.args t'.args A P Q W0 := by
  intro k u v hu hv hE ok sb sl sb' sl' wr hbl hP h1 h2 h3 h4
  have hsz := t.size_eq
  have hsz' := t'.size_eq
  have hst := t.size_le_total
  have hst' := t'.size_le_total
  have htt := t.total_eq
  have htt' := t'.total_eq
  have hm := List.mem_of_getElem? hu
  have hm' := List.mem_of_getElem? hv
  have hut := total_mem hm
  have hvt := total_mem hm'
  have hat1 := fun i x => szsT_at hu i x
  have hat2 := fun i x => szsT_at hv i x
  rw [← hE] at hat2
  have hle2 : sizeT (t.args.take k) + u.size ≤ sizeT t.args := by rw [← sizeT_take' hu]; exact sizeT_take_le' t.args (k + 1)
  have hle3 : sizeT (t'.args.take k) + v.size ≤ sizeT t'.args := by rw [← sizeT_take' hv]; exact sizeT_take_le' t'.args (k + 1)
  rw [← hE] at hle3
  have HS2 : Hid (sizeT (t.args.take (k + 1)) = sizeT (t.args.take k) + u.size) := sizeT_take' hu
  have hup := u.size_pos
  have hvp := v.size_pos
  obtain ⟨p, hp⟩ : ∃ p, sizeT (t.args.take k) = p := ⟨_, rfl⟩
  rw [hp] at hP hat1 hat2 hle2 hle3 HS2
  have bw : Below Wp.heap.size Wp wr := hb0.trans (hbl.mono hWp)
  obtain ⟨ga, oa, na, ca, rfl, hla, hnca, hna, hia⟩ := hva
  obtain ⟨gb, ob, nb, cb, rfl, hlb, hncb, hnb, hib⟩ := hvb
  rw [t.szs_len] at hla
  rw [t'.szs_len] at hlb
  have hI1 : IntsAt wr (.slice (some ⟨ga, oa + (1 + p), none⟩) (na - (1 + p)) (ca - (1 + p))) u.szs := ⟨ga, oa + (1 + p), _, _, rfl, by rw [u.szs_len]; omega, by omega, by omega, fun i x hi => by
    have h9 := hia _ _ (hat1 i x hi)
    rw [Nat.add_assoc]
    exact (cat bw (lt_of_cell h9)).trans h9⟩
  have hI2 : IntsAt wr (.slice (some ⟨gb, ob + (1 + p), none⟩) (nb - (1 + p)) (cb - (1 + p))) v.szs := ⟨gb, ob + (1 + p), _, _, rfl, by rw [v.szs_len]; omega, by omega, by omega, fun i x hi => by
    have h9 := hib _ _ (hat2 i x hi)
    rw [Nat.add_assoc]
    exact (cat bw (lt_of_cell h9)).trans h9⟩
  have w9 : wr.cell? ⟨ga, oa + (1 + p), none⟩ = some (.int .i64 (u.size : Int)) := by
    have h9 := hia _ _ (hat1 0 (u.size : Int) (by rw [u.szs_eq]; rfl))
    rw [Nat.add_zero] at h9
    exact (cat bw (lt_of_cell h9)).trans h9
  have hgaw : ga < Wp.heap.size := lt_of_cell (hia _ _ (hat1 0 (u.size : Int) (by rw [u.szs_eq]; rfl)))
  have bA : Blk wr A 41 #[.slice (some ⟨ga, oa, none⟩) na ca] := hA.below hbl hAP
  have bQ : Blk wr Q 41 #[.slice (some ⟨gb, ob, none⟩) nb cb] := hQ.below hbl hQP
  have hIH := IH u hm
  obtain ⟨x1, x2, rfl, _⟩ := h1.shape
  obtain ⟨x3, x4, rfl, _⟩ := h2.shape
  obtain ⟨x5, x6, rfl, _⟩ := h3.shape
  obtain ⟨x7, x8, rfl, _⟩ := h4.shape
  obtain ⟨n1, hn1⟩ : ∃ n, u.binds.length = n := ⟨_, rfl⟩
  obtain ⟨n2, hn2⟩ : ∃ n, u.args.length = n := ⟨_, rfl⟩
  obtain ⟨n3, hn3⟩ : ∃ n, v.binds.length = n := ⟨_, rfl⟩
  obtain ⟨n4, hn4⟩ : ∃ n, v.args.length = n := ⟨_, rfl⟩
  rw [hn1] at h1 ⊢
  rw [hn2] at h2 ⊢
  rw [hn3] at h3 ⊢
  rw [hn4] at h4 ⊢
  obtain ⟨N, hN⟩ : ∃ N, wr.heap.size = N := ⟨_, rfl⟩
  have hPN : P < N := by rw [← hN]; exact hP.lt
  obtain ⟨wx, hwx⟩ : ∃ wx, (wr.alloc (.cells #[.slice x1 n1 x2, .int .i64 u.kind, .int .i64 u.idx, .slice x3 n2 x4] 34)).alloc (.cells #[.slice x5 n3 x6, .int .i64 v.kind, .int .i64 v.idx, .slice x7 n4 x8] 34) = wx := ⟨_, rfl⟩
  have b0 : Blk wx N 34 #[.slice x1 n1 x2, .int .i64 u.kind, .int .i64 u.idx, .slice x3 n2 x4] := by rw [← hwx]; exact (Blk.new' wr N 34 _ hN).alloc _
  have b1 : Blk wx (N + 1) 34 #[.slice x5 n3 x6, .int .i64 v.kind, .int .i64 v.idx, .slice x7 n4 x8] := by rw [← hwx]; exact Blk.new' _ (N + 1) 34 _ (by simp [hN])
  have bl0 : Below wr.heap.size wr wx := by rw [← hwx]; exact ((Below.refl _ wr).alloc (Nat.le_refl _) _).alloc (by simp) _
  have bA2 := bA.below bl0 bA.lt
  have bQ2 := bQ.below bl0 bQ.lt
  have bP2 := hP.below bl0 hP.lt
  have w8 := (cat bl0 (lt_of_cell w9)).trans w9
  obtain ⟨r, hr⟩ : ∃ r, u.cmp v = r := ⟨_, rfl⟩
  have CC : Hid (∀ d os, Calls Try.prog 65 #[tmv (.slice x1 n1 x2) u.kind u.idx (.slice x3 n2 x4), tmv (.slice x5 n3 x6) v.kind v.idx (.slice x7 n4 x8), .slice (some ⟨ga, oa + (1 + p), none⟩) (na - (1 + p)) (ca - (1 + p)), .slice (some ⟨gb, ob + (1 + p), none⟩) (nb - (1 + p)) (cb - (1 + p))] (grow (redrawn wx d) os) fun e w'' => e = .returned (.int .i64 r) ∧ ∃ p : Regrown, w'' = grow (redrawn wx p.d) p.os) := fun d os =>
    Calls.regrown_of (by
      rw [← hr]
      have hbr := below_regrown wx d os
      exact hIH v ok _ _ _ _ _ _ _ ((h1.bel bl0).bel hbr) ((h2.bel bl0).bel hbr) ((h3.bel bl0).bel hbr) ((h4.bel bl0).bel hbr) ((hI1.bel bl0).bel hbr) ((hI2.bel bl0).bel hbr) (by omega) (by omega))
  have y1 : (0 : Int) ≤ 1 + (p : Int) := by omega
  have y2 : 1 + (p : Int) ≤ (na : Int) := by omega
  have y3 : 1 + (p : Int) ≤ (nb : Int) := by omega
  have y4 : 1 + (p : Int) < (na : Int) := by omega
  have y5 : 1 + (p : Int) < (nb : Int) := by omega
  have y6 : ¬ cb = 1 + p := by omega
  have y7 : ¬ ca = 1 + p := by omega
  have hus : u.size ≤ 900000 := by omega
  have hp9 : p ≤ 900000 := by omega
  have hnc2 : na ≤ ca := hnca
  have hnc3 : nb ≤ cb := hncb
  have hgP : ga < P := by omega
  have HW : Hid _ := hwx
  rw [hr]
  clear hia hib hat1 hat2 hI1 hI2 w9 h1 h2 h3 h4 hIH IH hr hwx hn1 hn2 hn3 hn4 bA bQ hP hsz hsz' hst hst' htt htt' hm hm' hut hvt hu hv hE hp hle2 hle3 hA hQ ht ht' hnca hncb
  go_enter Try.func104, Try.ntmps104
  go_upto_region 1 with fail
  rw [HW.out]
  clear HW
  have q0 := fun d os => cell_regrown (b0.cell 0) d os
  have q1 := fun d os => cell_regrown (b0.cell 1) d os
  have q2 := fun d os => cell_regrown (b0.cell 2) d os
  have q3 := fun d os => cell_regrown (b0.cell 3) d os
  have p0 := fun d os => cell_regrown (b1.cell 0) d os
  have p1 := fun d os => cell_regrown (b1.cell 1) d os
  have p2 := fun d os => cell_regrown (b1.cell 2) d os
  have p3 := fun d os => cell_regrown (b1.cell 3) d os
  have m1 := fun d os => cell_regrown (bA2.cell 0) d os
  have m2 := fun d os => cell_regrown (bP2.cell 0) d os
  have m3 := fun d os => cell_regrown (bQ2.cell 0) d os
  refine wp_region_quiet_below (by kernel_rfl) (by kernel_rfl) ?_
  repeat (go_big_quiet_step ((go_at_call 65; exact CC.out _ _)))
  refine wpQuiet_nil ?_
  intro w1 hw'
  obtain ⟨pp, hw''⟩ := hw'
  have hb1 : Below wx.heap.size wx w1 := by rw [hw'']; exact below_regrown _ _ _
  clear hw'' pp q0 q1 q2 q3 p0 p1 p2 p3 m1 m2 m3 CC b0 b1
  have bA3 := bA2.below hb1 bA2.lt
  have bP3 := bP2.below hb1 bP2.lt
  have w10 := (cat hb1 (lt_of_cell w8)).trans w8
  have cA := bA3.cell 0
  have cP := bP3.cell 0
  have fP := bP3.frozen 0
  have bP4 := bP3.set 0 (.int .i64 (1 + (p : Int) + (u.size : Int)))
  have hbo : Below P wr w1 := (bl0.mono (by omega)).trans (hb1.mono (by have := bl0.size; omega))
  have HZ : Hid (1 + (sizeT (t.args.take (k + 1)) : Int) = 1 + (p : Int) + (u.size : Int)) := by show _ = _; rw [HS2.out]; omega
  clear bA2 bQ2 bP2 w8 HS2
  go_upto_region 2 with fail
  go_region
  go_wp2
  go_ret
  exact ⟨rfl, (bset hbo (Nat.le_refl _) _).drew, by rw [HZ.out]; exact bP4.drew⟩

theorem or_cmp2 (k k' i i' : Int) : (orI (sgn k k') (sgn i i') ≠ 0 → (if sgn k k' ≠ 0 then sgn k k' else sgn i i') = orI (sgn k k') (sgn i i')) ∧ (orI (sgn k k') (sgn i i') = 0 → sgn k k' = 0 ∧ sgn i i' = 0) := by
  unfold orI
  generalize sgn k k' = p
  generalize sgn i i' = q
  by_cases h : p = 0
  · subst h
    simp
  · simp [h]

set_option maxRecDepth 100000 in
set_option maxHeartbeats 3200000 in
theorem compareT_calls (t : Tm) : CmpTAt t := by
  induction t using Tm.ind with
  | h t ih =>
  intro t' ok sb sl sb' sl' va vb w hb hh hb' hh' hva hvb ht ht'
  have hsz := t.size_eq
  have hsz' := t'.size_eq
  have hst := t.size_le_total
  have hst' := t'.size_le_total
  have htt := t.total_eq
  have htt' := t'.total_eq
  have hla := totalT_length t.args
  have hcmp := t.cmp_eq t'
  obtain ⟨K, hK⟩ : ∃ k, t.cmp t' = k := ⟨_, rfl⟩
  rw [hK] at hcmp ⊢
  have HC : Hid _ := hcmp
  clear hcmp hK
  obtain ⟨B, hB⟩ : ∃ B, w.heap.size = B := ⟨_, rfl⟩
  have hstep : ∀ (A P Q : Nat) (W0 : World), B ≤ P → Below B w W0 → A < P → Q < P → Blk W0 A 41 #[va] → Blk W0 Q 41 #[vb] → CmpStep t.args t'.args A P Q W0 := fun A P Q W0 h1 h2 h3 h4 h5 h6 => cmp1_calls t t' va vb A P Q w W0 (by rw [hB]; exact h1) (by rw [hB]; exact h2) h3 h4 h5 h6 hva hvb ht ht' ih
  have HSTEP : Hid _ := hstep
  obtain ⟨x1, x2, rfl, _⟩ := hb.shape
  obtain ⟨x3, x4, rfl, _⟩ := hh.shape
  obtain ⟨x5, x6, rfl, _⟩ := hb'.shape
  obtain ⟨x7, x8, rfl, _⟩ := hh'.shape
  obtain ⟨ga, oa, na, ca, rfl, hla1, hnca, hna, hia⟩ := hva
  obtain ⟨gb, ob, nb, cb, rfl, hlb1, hncb, hnb, hib⟩ := hvb
  rw [t.szs_len] at hla1
  rw [t'.szs_len] at hlb1
  have s0 := hia 0 (t.size : Int) (by rw [t.szs_eq]; rfl)
  have s1 := hib 0 (t'.size : Int) (by rw [t'.szs_eq]; rfl)
  rw [Nat.add_zero] at s0 s1
  clear hia hib ih hstep
  have hall := fun cur h1 h2 => compareAll_calls t.binds t'.binds okT (.slice x1 t.binds.length x2) (.slice x5 t'.binds.length x6) cur h1 h2 (by omega) (by omega)
  have hallT := fun A P Q cur h1 h2 h3 h4 h5 => compareAllT_calls t.args t'.args (fun b => b < B) (.slice x3 t.args.length x4) (.slice x7 t'.args.length x8) A P Q cur h1 h2 h3 (by omega) h4 h5
  have hh1 : HoldsT w (fun b => b < B) t.args (.slice x3 t.args.length x4) := hh.mono fun b h _ => by omega
  have hh2 : HoldsT w (fun b => b < B) t'.args (.slice x7 t'.args.length x8) := hh'.mono fun b h _ => by omega
  have hb1 := hb.t
  have hb2 := hb'.t
  clear hh hh' hb hb'
  obtain ⟨K2, hK2⟩ : ∃ k, cmpAllL t.binds t'.binds = k := ⟨_, rfl⟩
  rw [hK2] at HC hall
  have HA0 : Hid (∀ (A P Q : Nat) (W0 : World), B ≤ P → Below B w W0 → A < P → Q < P → Blk W0 A 41 #[.slice (some ⟨ga, oa, none⟩) na ca] → Blk W0 Q 41 #[.slice (some ⟨gb, ob, none⟩) nb cb] → CmpStep t.args t'.args A P Q W0) := HSTEP.out
  have HAC : Hid (cmpAllT t.args t'.args = if t.args.length ≠ t'.args.length then sgn t.args.length t'.args.length else cmpT t.args t'.args) := rfl
  obtain ⟨K4, hK4⟩ : ∃ k, cmpAllT t.args t'.args = k := ⟨_, rfl⟩
  rw [hK4] at HAC hallT
  have HC0 : Hid (K = if t.size ≠ t'.size then sgn t.size t'.size else if K2 ≠ 0 then K2 else if sgn t.kind t'.kind ≠ 0 then sgn t.kind t'.kind else if sgn t.idx t'.idx ≠ 0 then sgn t.idx t'.idx else K4) := by show _ = _; rw [HC.out, HAC.out]
  have HOR := or_cmp2 t.kind t'.kind t.idx t'.idx
  obtain ⟨K3, hK3⟩ : ∃ k, orI (sgn t.kind t'.kind) (sgn t.idx t'.idx) = k := ⟨_, rfl⟩
  have kO := fun (cur : World) => cmpOr_calls (sgn t.kind t'.kind) (sgn t.idx t'.idx) cur.heap.size (cur.alloc (.cells #[.int .i64 (sgn t.kind t'.kind), .int .i64 (sgn t.idx t'.idx)] 3)) ((Blk.new cur 3 _).cell 0) ((Blk.new cur 3 _).cell 1)
  rw [hK3] at HOR kO
  have HO3 : Hid _ := HOR
  have na0 : 0 < na := by have := t.size_pos; omega
  have nb0 : 0 < nb := by have := t'.size_pos; omega
  clear hK2 hK3 hK4 HC HAC HOR HSTEP htt htt' hst hst' hsz hsz' hla hla1 hlb1 hnca hncb hna hnb ht ht'
  generalize t.binds.length = n1 at *
  generalize t.args.length = n2 at *
  generalize t'.binds.length = n3 at *
  generalize t'.args.length = n4 at *
  rw [hB]
  go_enter Try.func65, Try.ntmps65
  go_upto_region 1 with fail
  obtain ⟨w0, hw0⟩ : ∃ w0, (((w.alloc (.cells #[.slice x1 n1 x2, .int .i64 t.kind, .int .i64 t.idx, .slice x3 n2 x4] 34)).alloc (.cells #[.slice x5 n3 x6, .int .i64 t'.kind, .int .i64 t'.idx, .slice x7 n4 x8] 34)).alloc (.cells #[.slice (some ⟨ga, oa, none⟩) na ca] 41)).alloc (.cells #[.slice (some ⟨gb, ob, none⟩) nb cb] 41) = w0 := ⟨_, rfl⟩
  rw [hw0]
  have b0 : Blk w0 B 34 #[.slice x1 n1 x2, .int .i64 t.kind, .int .i64 t.idx, .slice x3 n2 x4] := by rw [← hw0]; exact (((Blk.new' w B 34 _ hB).alloc _).alloc _).alloc _
  have b1 : Blk w0 (B + 1) 34 #[.slice x5 n3 x6, .int .i64 t'.kind, .int .i64 t'.idx, .slice x7 n4 x8] := by rw [← hw0]; exact ((Blk.new' _ (B + 1) 34 _ (by simp [hB])).alloc _).alloc _
  have b2 : Blk w0 (B + 1 + 1) 41 #[.slice (some ⟨ga, oa, none⟩) na ca] := by rw [← hw0]; exact (Blk.new' _ (B + 1 + 1) 41 _ (by simp [hB])).alloc _
  have b3 : Blk w0 (B + 1 + 1 + 1) 41 #[.slice (some ⟨gb, ob, none⟩) nb cb] := by rw [← hw0]; exact Blk.new' _ (B + 1 + 1 + 1) 41 _ (by simp [hB])
  have bl0 : Below B w w0 := by rw [← hw0]; exact ((((Below.refl B w).alloc (by omega) _).alloc (by simp; omega) _).alloc (by simp; omega) _).alloc (by simp; omega) _
  have hz0 : B ≤ w0.heap.size := by have := bl0.size; omega
  have bl0' : Below w.heap.size w w0 := by rw [hB]; exact bl0
  have g0 : w0.cell? ⟨ga, oa, none⟩ = some (.int .i64 (t.size : Int)) := (cat bl0' (lt_of_cell s0)).trans s0
  have g1 : w0.cell? ⟨gb, ob, none⟩ = some (.int .i64 (t'.size : Int)) := (cat bl0' (lt_of_cell s1)).trans s1
  have c0 := b0.cell 0
  have c1 := b0.cell 1
  have c2 := b0.cell 2
  have c3 := b0.cell 3
  have d0 := b1.cell 0
  have d1 := b1.cell 1
  have d2 := b1.cell 2
  have d3 := b1.cell 3
  have e0 := b2.cell 0
  have e1 := b3.cell 0
  have hb3 := hb1.bel bl0'
  have hb4 := hb2.bel bl0'
  have hK : ∀ v, Cur w0 v → v.cell? ⟨B + 1 + 1, 0, none⟩ = some (.slice (some ⟨ga, oa, none⟩) na ca) ∧ v.cell? ⟨B + 1 + 1 + 1, 0, none⟩ = some (.slice (some ⟨gb, ob, none⟩) nb cb) ∧ v.cell? ⟨ga, oa, none⟩ = some (.int .i64 (t.size : Int)) ∧ v.cell? ⟨gb, ob, none⟩ = some (.int .i64 (t'.size : Int)) := fun v hv => ⟨hv.cell e0, hv.cell e1, hv.cell g0, hv.cell g1⟩
  have hK2 : ∀ v, Cur w0 v → v.cell? ⟨B, 0, none⟩ = some (.slice x1 n1 x2) ∧ v.cell? ⟨B + 1, 0, none⟩ = some (.slice x5 n3 x6) := fun v hv => ⟨hv.cell c0, hv.cell d0⟩
  have hK3 : ∀ v, Cur w0 v → v.cell? ⟨B, 1, none⟩ = some (.int .i64 t.kind) ∧ v.cell? ⟨B, 2, none⟩ = some (.int .i64 t.idx) ∧ v.cell? ⟨B + 1, 1, none⟩ = some (.int .i64 t'.kind) ∧ v.cell? ⟨B + 1, 2, none⟩ = some (.int .i64 t'.idx) := fun v hv => ⟨hv.cell c1, hv.cell c2, hv.cell d1, hv.cell d2⟩
  have k99 := fun (a b : Int) (cur : World) (hc : Cur w0 cur) => (cmpCompare_calls a b cur).mono (R' := fun e w' => e = .returned (.int .i64 (sgn a b)) ∧ Cur w0 w') (fun e w' ⟨h1, h2⟩ => ⟨h1, h2 ▸ hc⟩)
  have k100 := fun (cur : World) (hc : Cur w0 cur) => Calls.cur hc (hall cur (hc.holds hb3) (hc.holds hb4))
  have k102 := fun (cur : World) (hc : Cur w0 cur) => (kO cur).mono (R' := fun e w' => e = .returned (.int .i64 K3) ∧ Cur w0 w') (fun e w' ⟨h1, h2⟩ => ⟨h1, h2 ▸ hc.alloc _⟩)
  have hcur := Cur.refl w0
  clear hw0 hall kO hb1 hb2 s0 s1 bl0'
  go_region_held3 (fun v => v.cell? ⟨B + 1 + 1, 0, none⟩ = some (.slice (some ⟨ga, oa, none⟩) na ca) ∧ v.cell? ⟨B + 1 + 1 + 1, 0, none⟩ = some (.slice (some ⟨gb, ob, none⟩) nb cb) ∧ v.cell? ⟨ga, oa, none⟩ = some (.int .i64 (t.size : Int)) ∧ v.cell? ⟨gb, ob, none⟩ = some (.int .i64 (t'.size : Int)))
    (first | exact hK _ (by first | assumption | (refine Cur.drew ?_; assumption)))
    (first | (go_at_call 99; with_reducible refine (k99 _ _ _ (by first | assumption | (refine Cur.drew ?_; assumption))).mono ?_; rintro e y1 ⟨rfl, i1⟩))
  clear hcur hK
  obtain ⟨r, hr⟩ : ∃ r, sgn (t.size : Int) (t'.size : Int) = r := ⟨_, rfl⟩
  rw [hr]
  by_cases hr0 : r = 0
  · have hse : t.size = t'.size := by rw [hr0] at hr; have := (sgn_zero _ _).1 hr; omega
    have HC1 : Hid _ := HC0.out
    rw [if_neg (by omega)] at HC1
    clear HC0 hse
    subst hr0
    clear hr
    have f0 := hK2 _ i1
    obtain ⟨f0, f1⟩ := f0
    go_wp2_with fail
    refine (k100 _ (by first | assumption | (refine Cur.drew ?_; assumption))).mono ?_
    rintro e y2 ⟨rfl, i2⟩
    clear f0 f1 hK2 k100
    by_cases h20 : K2 = 0
    · have HC2 : Hid _ := HC1.out
      rw [if_neg (by simpa using h20)] at HC2
      clear HC1
      subst h20
      go_upto_region 7 with fail
      have hcur := i2
      go_region_held3 (fun v => v.cell? ⟨B, 1, none⟩ = some (.int .i64 t.kind) ∧ v.cell? ⟨B, 2, none⟩ = some (.int .i64 t.idx) ∧ v.cell? ⟨B + 1, 1, none⟩ = some (.int .i64 t'.kind) ∧ v.cell? ⟨B + 1, 2, none⟩ = some (.int .i64 t'.idx))
        (first | exact hK3 _ (by first | assumption | (refine Cur.drew ?_; assumption) | (refine Cur.alloc ?_ _; assumption)))
        (first
          | (go_at_call 99; with_reducible refine (k99 t.kind t'.kind _ (by first | assumption | (refine Cur.drew ?_; assumption))).mono ?_; rintro e y1 ⟨rfl, i3⟩)
          | (go_at_call 99; with_reducible refine (k99 t.idx t'.idx _ (by first | assumption | (refine Cur.drew ?_; assumption))).mono ?_; rintro e y2 ⟨rfl, i4⟩)
          | (go_at_call 102; refine (k102 _ (by first | assumption | (refine Cur.drew ?_; assumption))).mono ?_; rintro e y3 ⟨rfl, i5⟩))
      clear hcur i3 i4 k99 k102 hK3
      by_cases h30 : K3 = 0
      · obtain ⟨hk9, hi9⟩ := HO3.out.2 h30
        have HC3 : Hid (K4 = K) := by show _ = _; rw [HC2.out, hk9, hi9]; simp
        clear HC2 HO3 hk9 hi9
        subst h30
        obtain ⟨P, hP⟩ : ∃ P, y3.heap.size = P := ⟨_, rfl⟩
        have hsz9 : w0.heap.size ≤ P := by rw [← hP]; exact Below.size i5
        have hlt9 := b3.lt
        have i6 : Cur w0 (y3.alloc (.cells #[.int .i64 1] 3)) := i5.alloc _
        have c9 := i6.cell c3
        have d9 := i6.cell d3
        have bP : Blk (y3.alloc (.cells #[.int .i64 1] 3)) P 3 #[.int .i64 1] := Blk.new' _ P 3 _ hP
        have hfin : Below B w (y3.alloc (.cells #[.int .i64 1] 3)) := bl0.trans (Below.mono i6 hz0)
        have hcall := hallT (B + 1 + 1) P (B + 1 + 1 + 1) (y3.alloc (.cells #[.int .i64 1] 3)) (hh1.bel (hB ▸ hfin)) (hh2.bel (hB ▸ hfin)) (fun b hb => by omega) bP (HA0.out _ P _ _ (by omega) hfin (by omega) (by omega) (b2.below i6 b2.lt) (b3.below i6 b3.lt))
        have hmf : ∀ (fn : Fn) (first cap : Array Value) (w : World), (Instr.makeFunc fn first cap).run Try.prog w = .ok (.func fn first cap) w := fun _ _ _ _ => rfl
        clear hallT HA0 hh1 hh2 b0 b1 b2 b3 i6
        go_wp2_with fail
        refine hcall.mono ?_
        rintro e y4 ⟨rfl, hb9⟩
        go_wp2
        go_ret
        exact ⟨ret_int HC3.out, hfin.trans (hb9.mono (by omega))⟩
      · have z0 : (K3 != 0) = true := by simp [h30]
        have HR : Hid (K3 = K) := by
          show _ = _
          rw [HC2.out, ← HO3.out.1 h30]
          by_cases hk : sgn t.kind t'.kind = 0
          · rw [if_neg (by simpa using hk), if_neg (by simpa using hk)]
            have h9 := HO3.out.1 h30
            rw [if_neg (by simpa using hk)] at h9
            rw [h9, if_pos h30]
          · rw [if_pos hk, if_pos hk]
        clear h30 HC2 HO3
        go_wp2
        go_ret
        exact ⟨ret_int HR.out, bl0.trans (Below.mono i5 hz0)⟩
    · have z0 : (K2 != 0) = true := by simp [h20]
      have HR : Hid (K2 = K) := by show _ = _; rw [HC1.out, if_pos (by simpa using h20)]
      clear h20 HC1
      go_wp2
      go_ret
      exact ⟨ret_int HR.out, bl0.trans (Below.mono i2 hz0)⟩
  · have z0 : (r != 0) = true := by simp [hr0]
    have HR : Hid (r = K) := by show _ = _; rw [HC0.out, if_pos (fun e => hr0 (by rw [← hr, e]; exact sgn_self _)), hr]
    clear hr hr0 HC0
    go_wp2
    go_ret
    exact ⟨ret_int HR.out, bl0.trans (Below.mono i1 hz0)⟩

set_option maxRecDepth 100000 in
set_option maxHeartbeats 3200000 in
theorem CompareT_calls (t t' : Tm) (ok : Nat → Prop) (sb sl sb' sl' : Value) (w : World) (hb : Holds w ok t.binds sb) (hh : HoldsT w ok t.args sl) (hb' : Holds w ok t'.binds sb') (hh' : HoldsT w ok t'.args sl') (ht : t.total ≤ 900000) (ht' : t'.total ≤ 900000) :
    Calls Try.prog 27 #[tmv sb t.kind t.idx sl, tmv sb' t'.kind t'.idx sl'] w fun e w' => e = .returned (.int .i64 (t.cmp t')) ∧ Below w.heap.size w w' := by
  have hst := t.size_le_total
  have hst' := t'.size_le_total
  obtain ⟨B, hB⟩ : ∃ B, w.heap.size = B := ⟨_, rfl⟩
  obtain ⟨x1, x2, rfl, _⟩ := hb.shape
  obtain ⟨x3, x4, rfl, _⟩ := hh.shape
  obtain ⟨x5, x6, rfl, _⟩ := hb'.shape
  obtain ⟨x7, x8, rfl, _⟩ := hh'.shape
  obtain ⟨w0, hw0⟩ : ∃ w0, (w.alloc (.cells #[.slice x1 t.binds.length x2, .int .i64 t.kind, .int .i64 t.idx, .slice x3 t.args.length x4] 34)).alloc (.cells #[.slice x5 t'.binds.length x6, .int .i64 t'.kind, .int .i64 t'.idx, .slice x7 t'.args.length x8] 34) = w0 := ⟨_, rfl⟩
  have b0 : Blk w0 B 34 #[.slice x1 t.binds.length x2, .int .i64 t.kind, .int .i64 t.idx, .slice x3 t.args.length x4] := by rw [← hw0]; exact (Blk.new' w B 34 _ hB).alloc _
  have b1 : Blk w0 (B + 1) 34 #[.slice x5 t'.binds.length x6, .int .i64 t'.kind, .int .i64 t'.idx, .slice x7 t'.args.length x8] := by rw [← hw0]; exact Blk.new' _ (B + 1) 34 _ (by simp [hB])
  have bl0 : Below B w w0 := by rw [← hw0]; exact ((Below.refl B w).alloc (by omega) _).alloc (by simp; omega) _
  have hz0 : B ≤ w0.heap.size := by have := bl0.size; omega
  have h1 := (hb.bel (by rw [hB]; exact bl0)).t
  have h2 := (hh.bel (by rw [hB]; exact bl0)).t
  have h3 := (hb'.bel (by rw [hB]; exact bl0)).t
  have h4 := (hh'.bel (by rw [hB]; exact bl0)).t
  have gen : ∀ (u : Tm) (s r : Value) (cur : World), Cur w0 cur → Holds w0 okT u.binds s → HoldsT w0 okT u.args r → u.size ≤ 900000 → Calls Try.prog 66 #[.slice none 0 0, tmv s u.kind u.idx r] cur fun e w' => ∃ v, e = .returned v ∧ IntsAt w' v u.szs ∧ Cur w0 w' ∧ Below cur.heap.size cur w' := fun u s r cur hc hu hr hs => by
    refine (sizesT_calls cur.heap.size u [] (.slice none 0 0) s r cur (World.ownsRow_nil _ _ _ _) (Nat.le_refl _) ((hc.holds hu).mono fun b _ _ => by simp [Value.ownBlock]) ((HoldsT.bel hr hc).mono fun b _ _ => by simp [Value.ownBlock]) (by simp; omega)).mono ?_
    rintro e w' ⟨v, h1, h2, h3, h4⟩
    have hbb : Below cur.heap.size cur w' := (Below.refl _ _).grown h3 (Nat.le_refl _) (fun k hk => by simp [Value.ownBlock] at hk)
    exact ⟨v, h1, intsAt_row h2 (by simp [u.szs_len]) (by have := u.size_pos; simp; omega) (by simp; omega), hc.then hbb, hbb⟩
  have kA := fun (cur : World) (hc : Cur w0 cur) => gen t (.slice x1 t.binds.length x2) (.slice x3 t.args.length x4) cur hc h1 h2 (by omega)
  have kB := fun (cur : World) (hc : Cur w0 cur) => gen t' (.slice x5 t'.binds.length x6) (.slice x7 t'.args.length x8) cur hc h3 h4 (by omega)
  have kC : ∀ (cur : World) (va vb : Value), Cur w0 cur → IntsAt cur va t.szs → IntsAt cur vb t'.szs → Calls Try.prog 65 #[tmv (.slice x1 t.binds.length x2) t.kind t.idx (.slice x3 t.args.length x4), tmv (.slice x5 t'.binds.length x6) t'.kind t'.idx (.slice x7 t'.args.length x8), va, vb] cur fun e w' => e = .returned (.int .i64 (t.cmp t')) ∧ Cur w0 w' := fun cur va vb hc g1 g2 =>
    Calls.cur hc (compareT_calls t t' okT _ _ _ _ va vb cur (hc.holds h1) (HoldsT.bel h2 hc) (hc.holds h3) (HoldsT.bel h4 hc) g1 g2 (by omega) (by omega))
  obtain ⟨K, hK9⟩ : ∃ k, t.cmp t' = k := ⟨_, rfl⟩
  rw [hK9] at kC ⊢
  clear gen hb hh hb' hh' h1 h2 h3 h4 hst hst' ht ht' hK9
  have HW : Hid _ := hw0
  clear hw0
  rw [hB]
  generalize t.binds.length = n1 at *
  generalize t.args.length = n2 at *
  generalize t'.binds.length = n3 at *
  generalize t'.args.length = n4 at *
  have c0 := b0.cell 0
  have c1 := b0.cell 1
  have c2 := b0.cell 2
  have c3 := b0.cell 3
  have d0 := b1.cell 0
  have d1 := b1.cell 1
  have d2 := b1.cell 2
  have d3 := b1.cell 3
  have hK : ∀ v, Cur w0 v → v.cell? ⟨B, 0, none⟩ = some (.slice x1 n1 x2) ∧ v.cell? ⟨B, 1, none⟩ = some (.int .i64 t.kind) ∧ v.cell? ⟨B, 2, none⟩ = some (.int .i64 t.idx) ∧ v.cell? ⟨B, 3, none⟩ = some (.slice x3 n2 x4) ∧ v.cell? ⟨B + 1, 0, none⟩ = some (.slice x5 n3 x6) ∧ v.cell? ⟨B + 1, 1, none⟩ = some (.int .i64 t'.kind) ∧ v.cell? ⟨B + 1, 2, none⟩ = some (.int .i64 t'.idx) ∧ v.cell? ⟨B + 1, 3, none⟩ = some (.slice x7 n4 x8) := fun v hv => ⟨hv.cell c0, hv.cell c1, hv.cell c2, hv.cell c3, hv.cell d0, hv.cell d1, hv.cell d2, hv.cell d3⟩
  have hcur := Cur.refl w0
  go_enter Try.func27, Try.ntmps27
  go_upto_region 1 with fail
  rw [HW.out]
  clear HW
  go_region_held3 (fun v => v.cell? ⟨B, 0, none⟩ = some (.slice x1 n1 x2) ∧ v.cell? ⟨B, 1, none⟩ = some (.int .i64 t.kind) ∧ v.cell? ⟨B, 2, none⟩ = some (.int .i64 t.idx) ∧ v.cell? ⟨B, 3, none⟩ = some (.slice x3 n2 x4) ∧ v.cell? ⟨B + 1, 0, none⟩ = some (.slice x5 n3 x6) ∧ v.cell? ⟨B + 1, 1, none⟩ = some (.int .i64 t'.kind) ∧ v.cell? ⟨B + 1, 2, none⟩ = some (.int .i64 t'.idx) ∧ v.cell? ⟨B + 1, 3, none⟩ = some (.slice x7 n4 x8))
    (first | exact hK _ (by first | assumption | (refine Cur.drew ?_; assumption)))
    (first
      | (go_at_call 66; with_reducible refine (kA _ (by first | assumption | (refine Cur.drew ?_; assumption))).mono ?_; rintro e y1 ⟨v1, rfl, n1, i1, f1⟩)
      | (go_at_call 66; with_reducible refine (kB _ (by first | assumption | (refine Cur.drew ?_; assumption))).mono ?_; rintro e y2 ⟨v2, rfl, n2, i2, f2⟩; have n3 := n1.bel f2)
      | (go_at_call 65; refine (kC _ _ _ (by first | assumption | (refine Cur.drew ?_; assumption)) n3 n2).mono ?_; rintro e y3 ⟨rfl, i3⟩))
  go_wp2
  go_ret
  exact ⟨rfl, bl0.trans (Below.mono i3 hz0)⟩

end Go.Proofs.Ytheokboggjnenaa
