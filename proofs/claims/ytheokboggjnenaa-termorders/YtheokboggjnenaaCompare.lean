/-
  The contracts of kind.compare and kind.Compare.
-/
import Derived.Test.YtheokboggjnenaaSizes
namespace Go.Proofs.Ytheokboggjnenaa
open Go Go.RowKit Go.Sort


/-- The slice v begins with these numbers. -/
def IntsAt (w : World) (v : Value) (l : List Int) : Prop := ∃ g o n c, v = .slice (some ⟨g, o, none⟩) n c ∧ l.length ≤ n ∧ n ≤ c ∧ n ≤ 2000000 ∧ ∀ i x, l[i]? = some x → w.cell? ⟨g, o + i, none⟩ = some (.int .i64 x)
theorem IntsAt.bel {w w' : World} {v : Value} {l : List Int} (h : IntsAt w v l) (hb : Below w.heap.size w w') : IntsAt w' v l := by
  obtain ⟨g, o, n, c, h1, h2, h3, h4, h5⟩ := h
  exact ⟨g, o, n, c, h1, h2, h3, h4, fun i x hi => (cat hb (lt_of_cell (h5 i x hi))).trans (h5 i x hi)⟩

theorem or_cmp (t u : Ty) : (orI (sgn t.size u.size) (sgn t.args.length u.args.length) ≠ 0 → t.cmp u = orI (sgn t.size u.size) (sgn t.args.length u.args.length)) ∧ (orI (sgn t.size u.size) (sgn t.args.length u.args.length) = 0 → t.size = u.size ∧ t.args.length = u.args.length) := by
  unfold orI
  rw [t.cmp_eq]
  have h1 := sgn_zero t.size u.size
  have h2 := sgn_zero t.args.length u.args.length
  by_cases e1 : t.size = u.size
  · have z1 : sgn t.size u.size = 0 := h1.2 (by omega)
    rw [if_neg (by omega), if_neg (show ¬ t.size ≠ u.size by omega)]
    by_cases e2 : t.args.length = u.args.length
    · have z2 : sgn t.args.length u.args.length = 0 := h2.2 (by omega)
      exact ⟨fun h => absurd z2 h, fun _ => ⟨e1, e2⟩⟩
    · rw [if_pos e2]
      exact ⟨fun _ => rfl, fun h => absurd (h2.1 h) (by omega)⟩
  · have z1 : sgn t.size u.size ≠ 0 := fun h => e1 (by have := h1.1 h; omega)
    rw [if_pos z1, if_pos e1]
    exact ⟨fun _ => rfl, fun h => absurd h z1⟩

set_option maxRecDepth 100000 in
set_option maxHeartbeats 3200000 in
theorem compare_calls (t : Ty) : ∀ (t' : Ty) (ok : Nat → Prop) (sl sl' va vb : Value) (w : World), Holds w ok t.args sl → Holds w ok t'.args sl' → IntsAt w va t.szs → IntsAt w vb t'.szs → t.size ≤ 1000000 → t'.size ≤ 1000000 →
    Calls Try.prog 131 #[tv sl t.base, tv sl' t'.base, va, vb] w fun e w' => e = .returned (.int .i64 (t.cmp t')) ∧ Below w.heap.size w w' := by
  induction t using Ty.ind with
  | h t ih =>
  intro t' ok sl sl' va vb w hh hh' hva hvb hsz hsz'
  obtain ⟨ts, hts⟩ : ∃ ts, t.args = ts := ⟨_, rfl⟩
  obtain ⟨us, hus⟩ : ∃ us, t'.args = us := ⟨_, rfl⟩
  have hsz2 := t.size_eq
  have hsz2' := t'.size_eq
  have hse := t.cmp_eq t'
  have hor := or_cmp t t'
  have hat1 := fun k u (h : t.args[k]? = some u) => szs_at h
  have hat2 := fun k u (h : t'.args[k]? = some u) => szs_at h
  rw [hts] at hsz2 hse ih hor hat1
  rw [hus] at hsz2' hse hor hat2
  have HC : Hid _ := hse
  have HO : Hid _ := hor
  have HT1 : Hid _ := hat1
  have HT2 : Hid _ := hat2
  clear hse hor hat1 hat2
  have hh1 := hh
  have hh1' := hh'
  rw [hts] at hh1
  rw [hus] at hh1'
  obtain ⟨a, cap, rfl, hcap, hat⟩ := hh1.shape
  have HA : Hid _ := hat
  obtain ⟨a', cap', rfl, hcap', hat'⟩ := hh1'.shape
  have HA' : Hid _ := hat'
  clear hat hat' hh1 hh1'
  obtain ⟨ga, oa, na, ca, rfl, hla, hnca, hna, hia⟩ := hva
  obtain ⟨gb, ob, nb, cb, rfl, hlb, hncb, hnb, hib⟩ := hvb
  rw [t.szs_length] at hla
  rw [t'.szs_length] at hlb
  have HIA : Hid _ := hia
  have HIB : Hid _ := hib
  have s0 := hia 0 (t.size : Int) (by rw [t.szs_eq]; rfl)
  have s1 := hib 0 (t'.size : Int) (by rw [t'.szs_eq]; rfl)
  rw [Nat.add_zero] at s0 s1
  clear hia hib
  have hln := sizeL_length ts
  have hln' := sizeL_length us
  have hlt1 : sizeL ts < t.size := by omega
  have hlt2 : sizeL us < t'.size := by omega
  have HS1 : Hid _ := hsz2
  clear hsz2 hsz2'
  obtain ⟨B, hB⟩ : ∃ B, w.heap.size = B := ⟨_, rfl⟩
  rw [hB]
  go_enter Try.func131, Try.ntmps131
  go_wp2_with fail
  generalize hw0 : (w.alloc (.cells #[.slice a ts.length cap, .int .i64 t.base] 63)).alloc (.cells #[.slice a' us.length cap', .int .i64 t'.base] 63) = w0
  have b0 : Blk w0 B 63 #[.slice a ts.length cap, .int .i64 t.base] := by rw [← hw0]; exact (Blk.new' w B 63 _ hB).alloc _
  have b1 : Blk w0 (B + 1) 63 #[.slice a' us.length cap', .int .i64 t'.base] := by rw [← hw0]; exact Blk.new' _ (B + 1) 63 _ (by simp [hB])
  have bl0 : Below B w w0 := by rw [← hw0]; exact ((Below.refl B w).alloc (by omega) _).alloc (by simp; omega) _
  have hz0 : B ≤ w0.heap.size := by have := bl0.size; omega
  clear hw0
  have bl0' : Below w.heap.size w w0 := by rw [hB]; exact bl0
  have x0 : w0.cell? ⟨ga, oa, none⟩ = some (.int .i64 (t.size : Int)) := (cat bl0' (lt_of_cell s0)).trans s0
  have x1 : w0.cell? ⟨gb, ob, none⟩ = some (.int .i64 (t'.size : Int)) := (cat bl0' (lt_of_cell s1)).trans s1
  have c0 := b0.cell 0
  have c1 := b0.cell 1
  have d0 := b1.cell 0
  have d1 := b1.cell 1
  have hK : ∀ v, Cur w0 v → v.cell? ⟨B, 0, none⟩ = some (.slice a ts.length cap) ∧ v.cell? ⟨B + 1, 0, none⟩ = some (.slice a' us.length cap') ∧ v.cell? ⟨ga, oa, none⟩ = some (.int .i64 (t.size : Int)) ∧ v.cell? ⟨gb, ob, none⟩ = some (.int .i64 (t'.size : Int)) := fun v hv => ⟨hv.cell c0, hv.cell d0, hv.cell x0, hv.cell x1⟩
  have kA := fun (cur : World) (hc : Cur w0 cur) => (cmpCompare_calls (t.size : Int) (t'.size : Int) cur).mono (R' := fun e w' => e = .returned (.int .i64 (sgn t.size t'.size)) ∧ Cur w0 w') (fun e w' ⟨h1, h2⟩ => ⟨h1, h2 ▸ hc⟩)
  have kB := fun (cur : World) (hc : Cur w0 cur) => (cmpCompare_calls (ts.length : Int) (us.length : Int) cur).mono (R' := fun e w' => e = .returned (.int .i64 (sgn ts.length us.length)) ∧ Cur w0 w') (fun e w' ⟨h1, h2⟩ => ⟨h1, h2 ▸ hc⟩)
  have kO := fun (cur : World) (hc : Cur w0 cur) => (cmpOr_calls (sgn t.size t'.size) (sgn ts.length us.length) cur.heap.size (cur.alloc (.cells #[.int .i64 (sgn t.size t'.size), .int .i64 (sgn ts.length us.length)] 3)) ((Blk.new cur 3 _).cell 0) ((Blk.new cur 3 _).cell 1)).mono (R' := fun e w' => e = .returned (.int .i64 (orI (sgn t.size t'.size) (sgn ts.length us.length))) ∧ Cur w0 w') (fun e w' ⟨h1, h2⟩ => ⟨h1, h2 ▸ hc.alloc _⟩)
  have hcur := Cur.refl w0
  have na0 : 0 < na := by omega
  have nb0 : 0 < nb := by omega
  go_region_held3 (fun v => v.cell? ⟨B, 0, none⟩ = some (.slice a ts.length cap) ∧ v.cell? ⟨B + 1, 0, none⟩ = some (.slice a' us.length cap') ∧ v.cell? ⟨ga, oa, none⟩ = some (.int .i64 (t.size : Int)) ∧ v.cell? ⟨gb, ob, none⟩ = some (.int .i64 (t'.size : Int)))
    (first | exact hK _ (by first | assumption | (refine Cur.drew ?_; assumption) | (refine Cur.alloc ?_ _; assumption)))
    (first
      | (go_at_call 99; with_reducible refine (kA _ (by first | assumption | (refine Cur.drew ?_; assumption))).mono ?_; rintro e y1 ⟨rfl, i1⟩)
      | (go_at_call 99; with_reducible refine (kB _ (by first | assumption | (refine Cur.drew ?_; assumption))).mono ?_; rintro e y2 ⟨rfl, i2⟩)
      | (go_at_call 102; refine (kO _ (by first | assumption | (refine Cur.drew ?_; assumption))).mono ?_; rintro e y3 ⟨rfl, i3⟩))
  clear hcur i1 i2 kA kB kO
  obtain ⟨r, hr⟩ : ∃ r, orI (sgn t.size t'.size) (sgn ts.length us.length) = r := ⟨_, rfl⟩
  rw [hr] at HO ⊢
  clear hr
  have hKK := hK _ i3
  obtain ⟨r0, r2, _, _⟩ := hKK
  by_cases h0 : r = 0
  · have z0 : (r != 0) = false := by simp [h0]
    obtain ⟨hse, hle⟩ := HO.out.2 h0
    have HR : Hid (t.cmp t' = cmpL ts us (sgn t.base t'.base)) := by show _ = _; rw [HC.out, if_neg (by omega), if_neg (by omega)]
    have HLE : Hid (ts.length = us.length) := hle
    clear hse hle h0 HO HC
    go_wp2_with fail
    go_loopw [10, 36] (fun p i wr => ∃ k : Nat, k ≤ ts.length ∧ i = .int .i64 k ∧ p = .int .i64 (1 + (sizeL (ts.take k) : Int)) ∧ Hid (ts.take k = us.take k) ∧ Hid (cmpL (ts.drop k) (us.drop k) (sgn t.base t'.base) = cmpL ts us (sgn t.base t'.base)) ∧ Cur w0 wr)
      (fun _ i _ => ts.length - (intOf i).toNat)
    case atStart => exact ⟨0, Nat.zero_le _, rfl, by simp [sizeL], rfl, rfl, i3⟩
    case round =>
      clear i3 r0 r2
      obtain ⟨k, hk, rfl, rfl, HE, HF, hcw⟩ := hrel
      have r2 := hcw.cell d0
      have hwr : B ≤ wr.heap.size := Nat.le_trans hz0 (Below.size hcw)
      have hle := sizeL_take_le ts k
      by_cases hlt : k < ts.length
      · obtain ⟨u, hu⟩ : ∃ u, ts[k]? = some u := ⟨_, List.getElem?_eq_getElem hlt⟩
        have hlt' : k < us.length := by have := HLE.out; omega
        obtain ⟨v, hv⟩ : ∃ v, us[k]? = some v := ⟨_, List.getElem?_eq_getElem hlt'⟩
        obtain ⟨g, o, s, rfl, _, hg, a0, a1, hs⟩ := HA.out k u hu
        obtain ⟨g', o', s', rfl, _, hg', e0, e1, hs'⟩ := HA'.out k v hv
        have bw : Below w.heap.size w wr := by rw [hB]; exact bl0.trans (Below.mono hcw hz0)
        have t0 := (cat bw hg).trans a0
        have t1 := (cat bw hg).trans a1
        have hm := List.mem_of_getElem? hu
        have hm' := List.mem_of_getElem? hv
        have hus2 := size_mem hm
        have hus3 := size_mem hm'
        have hle2 : sizeL (ts.take k) + u.size ≤ sizeL ts := by rw [← sizeL_take hu]; exact sizeL_take_le ts (k + 1)
        have hle3 : sizeL (us.take k) + v.size ≤ sizeL us := by rw [← sizeL_take hv]; exact sizeL_take_le us (k + 1)
        rw [← HE.out] at hle3
        obtain ⟨p, hp⟩ : ∃ p, sizeL (ts.take k) = p := ⟨_, rfl⟩
        have HP : Hid (sizeL (ts.take k) = p) := hp
        have HP2 : Hid (sizeL (us.take k) = p) := by show _ = _; rw [← HE.out]; exact hp
        rw [hp] at hle hle2 hle3
        have hup := u.size_pos
        have hvp := v.size_pos
        have hs2 : Holds wr ok u.args s := hs.bel bw
        have hs2' : Holds wr ok v.args s' := hs'.bel bw
        have hI1 : IntsAt wr (.slice (some ⟨ga, oa + (1 + p), none⟩) (na - (1 + p)) (ca - (1 + p))) u.szs := ⟨ga, oa + (1 + p), _, _, rfl, by rw [u.szs_length]; omega, by omega, by omega, fun i x hi => by
          have h9 := HIA.out _ _ (HT1.out k u hu i x hi)
          rw [HP.out] at h9
          rw [Nat.add_assoc]
          exact (cat bw (lt_of_cell h9)).trans h9⟩
        have hI2 : IntsAt wr (.slice (some ⟨gb, ob + (1 + p), none⟩) (nb - (1 + p)) (cb - (1 + p))) v.szs := ⟨gb, ob + (1 + p), _, _, rfl, by rw [v.szs_length]; omega, by omega, by omega, fun i x hi => by
          have h9 := HIB.out _ _ (HT2.out k v hv i x hi)
          rw [HP2.out] at h9
          rw [Nat.add_assoc]
          exact (cat bw (lt_of_cell h9)).trans h9⟩
        have w9 : wr.cell? ⟨ga, oa + (1 + p), none⟩ = some (.int .i64 (u.size : Int)) := by
          have h9 := HIA.out _ _ (HT1.out k u hu 0 (u.size : Int) (by rw [u.szs_eq]; rfl))
          rw [HP.out, Nat.add_zero] at h9
          exact (cat bw (lt_of_cell h9)).trans h9
        rw [hp]
        have HE2 : Hid (u = v → ts.take (k + 1) = us.take (k + 1)) := fun e => by rw [List.take_add_one, List.take_add_one, hu, hv, HE.out, e]
        have HS2 : Hid (sizeL (ts.take (k + 1)) = p + u.size) := by show _ = _; rw [sizeL_take hu, hp]
        have HD := cmpL_drop hu hv (sgn t.base t'.base)
        rw [HF.out] at HD
        have HD2 : Hid _ := HD
        obtain ⟨sa, sc, rfl, _⟩ := hs.shape
        obtain ⟨X, hX⟩ : ∃ X, wr.heap.size = X := ⟨_, rfl⟩
        generalize hx : wr.alloc (.cells #[.slice sa u.args.length sc, .int .i64 u.base] 63) = wx
        have hbx : Below wr.heap.size wr wx := by rw [← hx]; exact (Below.refl _ _).alloc (Nat.le_refl _) _
        have bX : Blk wx X 63 #[.slice sa u.args.length sc, .int .i64 u.base] := by rw [← hx]; exact Blk.new' wr X 63 _ hX
        have hcx : Cur w0 wx := hcw.then hbx
        have bwx : Below w.heap.size w wx := bw.trans (hbx.mono bw.size)
        have q0 := fun d os => cell_regrown (bX.cell 0) d os
        have q1 := fun d os => cell_regrown (bX.cell 1) d os
        have p0 := fun d os => cell_regrown ((cat bwx hg').trans e0) d os
        have p1 := fun d os => cell_regrown ((cat bwx hg').trans e1) d os
        have m1 := fun d os => cell_regrown (hcx.cell d0) d os
        have y1 : (0 : Int) ≤ (k : Int) := by omega
        have y2 : (k : Int) < (ts.length : Int) := by omega
        have y3 : (k : Int) < (us.length : Int) := by omega
        have y4 : (0 : Int) ≤ 1 + (p : Int) := by omega
        have y5 : 1 + (p : Int) ≤ (na : Int) := by omega
        have y6 : 1 + (p : Int) ≤ (nb : Int) := by omega
        have y7 : 1 + (p : Int) < (na : Int) := by omega
        clear a0 a1 e0 e1 hu hv HD HF hp
        obtain ⟨r, hr⟩ : ∃ r, u.cmp v = r := ⟨_, rfl⟩
        have CC : Hid (∀ d os, Calls Try.prog 131 #[tv (.slice sa u.args.length sc) u.base, tv s' v.base, .slice (some ⟨ga, oa + (1 + p), none⟩) (na - (1 + p)) (ca - (1 + p)), .slice (some ⟨gb, ob + (1 + p), none⟩) (nb - (1 + p)) (cb - (1 + p))] (grow (redrawn wx d) os) fun e w'' => e = .returned (.int .i64 r) ∧ ∃ p : Regrown, w'' = grow (redrawn wx p.d) p.os) := fun d os =>
          Calls.regrown_of (by
            rw [← hr]
            have hbr := below_regrown wx d os
            exact ih u hm v ok _ _ _ _ _ ((hs2.bel hbx).bel hbr) ((hs2'.bel hbx).bel hbr) ((hI1.bel hbx).bel hbr) ((hI2.bel hbx).bel hbr) (by omega) (by omega))
        rw [hr] at HD2
        have HUV : Hid (r = 0 → u = v) := fun e => (cmp_zero u v).1 (hr.trans e)
        clear hr hI1 hI2 hs2 hs2'
        go_wp2_with fail
        refine wp_region_quiet_below (by kernel_rfl) (by kernel_rfl) ?_
        repeat (go_big_quiet_step ((go_at_call 131; exact CC.out _ _)))
        refine wpQuiet_nil ?_
        intro w1 hw'
        obtain ⟨pp, hw''⟩ := hw'
        have hb1 : Below wx.heap.size wx w1 := by rw [hw'']; exact below_regrown _ _ _
        clear hw'' pp q0 q1 p0 p1 m1 CC
        have hc1 : Cur w0 w1 := hcx.then hb1
        have w10 : w1.cell? ⟨ga, oa + (1 + p), none⟩ = some (.int .i64 (u.size : Int)) := by
          have h8 := (cat hbx (lt_of_cell w9)).trans w9
          exact (cat hb1 (lt_of_cell h8)).trans h8
        clear w9
        by_cases h0 : r = 0
        · have z3 : (r != 0) = false := by simp [h0]
          have HF2 : Hid (cmpL (ts.drop (k + 1)) (us.drop (k + 1)) (sgn t.base t'.base) = cmpL ts us (sgn t.base t'.base)) := by show _ = _; rw [HD2.out, if_neg (by simpa using h0)]
          have HE3 : Hid (ts.take (k + 1) = us.take (k + 1)) := HE2.out (HUV.out h0)
          clear h0
          go_wp2
          go_roundw
          case rel => exact ⟨k + 1, by omega, by go_num, by rw [HS2.out]; go_num, HE3, HF2, hc1⟩
          case measure => simp [intOf]; omega
        · have z3 : (r != 0) = true := by simp [h0]
          have HF2 : Hid (t.cmp t' = r) := by show _ = _; rw [HR.out, HD2.out, if_pos h0]
          clear h0
          go_wp2
          go_ret
          exact ⟨ret_int HF2.out.symm, bl0.trans (Below.mono hc1 hz0)⟩
      · obtain rfl : k = ts.length := by omega
        have HF2 : Hid (t.cmp t' = sgn t.base t'.base) := by
          show _ = _
          rw [HR.out, ← HF.out, List.drop_length, show us.drop ts.length = [] by rw [HLE.out, List.drop_length]]
          rfl
        have r1 := hcw.cell c1
        have r3 := hcw.cell d1
        go_wp2_with (go_at_call 99; refine (cmpCompare_calls _ _ _).mono ?_; rintro e w' ⟨rfl, rfl⟩)
        go_ret
        exact ⟨ret_int HF2.out.symm, bl0.trans (Below.mono hcw hz0)⟩
  · have z0 : (r != 0) = true := by simp [h0]
    have HR : Hid (t.cmp t' = r) := HO.out.1 h0
    clear h0 HO
    go_wp2
    go_ret
    exact ⟨ret_int HR.out.symm, bl0.trans (Below.mono i3 hz0)⟩

theorem ints_get (l : List Int) (i : Nat) (x : Int) (h : l[i]? = some x) : (ints l)[i]? = some (.int .i64 x) := by unfold ints; rw [List.getElem?_map, h]; rfl
theorem intsAt_row {w : World} {M : Nat} {v : Value} {l : List Int} {n : Nat} (h : w.ownsRow M 3 1 v n (ints l)) (hn : l.length = n) (h0 : 0 < n) (hm : n ≤ 1000000) : IntsAt w v l := by
  obtain ⟨g, cap, rfl, _, _⟩ := h.form h0
  have hc := World.ownsRow.cellAt h
  have hcap : n ≤ cap := by
    rcases h.2 with ⟨h1, _⟩ | ⟨g', cap', cur, h1, _, _, h4, _⟩
    · cases h1
    · cases h1; exact h4
  refine ⟨g, 0, n, cap, rfl, by omega, hcap, by omega, fun i x hi => ?_⟩
  have hil := (List.getElem?_eq_some_iff.1 hi).1
  rw [Nat.zero_add]
  exact (hc i (by omega)).trans (ints_get l i x hi)

set_option maxRecDepth 100000 in
set_option maxHeartbeats 3200000 in
theorem Compare_calls (t t' : Ty) (ok : Nat → Prop) (sl sl' : Value) (w : World) (hh : Holds w ok t.args sl) (hh' : Holds w ok t'.args sl') (hsz : t.size ≤ 900000) (hsz' : t'.size ≤ 900000) :
    Calls Try.prog 101 #[tv sl t.base, tv sl' t'.base] w fun e w' => e = .returned (.int .i64 (t.cmp t')) ∧ Below w.heap.size w w' := by
  obtain ⟨a, cap, hsl, _⟩ := hh.shape
  generalize t.args.length = tn at hsl
  subst hsl
  obtain ⟨a', cap', hsl, _⟩ := hh'.shape
  generalize t'.args.length = tn' at hsl
  subst hsl
  obtain ⟨B, hB⟩ : ∃ B, w.heap.size = B := ⟨_, rfl⟩
  rw [hB]
  go_enter Try.func101, Try.ntmps101
  go_wp2_with fail
  generalize hw0 : (w.alloc (.cells #[.slice a tn cap, .int .i64 t.base] 63)).alloc (.cells #[.slice a' tn' cap', .int .i64 t'.base] 63) = w0
  have b0 : Blk w0 B 63 #[.slice a tn cap, .int .i64 t.base] := by rw [← hw0]; exact (Blk.new' w B 63 _ hB).alloc _
  have b1 : Blk w0 (B + 1) 63 #[.slice a' tn' cap', .int .i64 t'.base] := by rw [← hw0]; exact Blk.new' _ (B + 1) 63 _ (by simp [hB])
  have bl0 : Below B w w0 := by rw [← hw0]; exact ((Below.refl B w).alloc (by omega) _).alloc (by simp; omega) _
  have hz0 : B ≤ w0.heap.size := by have := bl0.size; omega
  have h0 : Holds w0 okT t.args (.slice a tn cap) := (hh.bel (by rw [hB]; exact bl0)).t
  have h0' : Holds w0 okT t'.args (.slice a' tn' cap') := (hh'.bel (by rw [hB]; exact bl0)).t
  clear hw0
  have c0 := b0.cell 0
  have c1 := b0.cell 1
  have d0 := b1.cell 0
  have d1 := b1.cell 1
  have hK : ∀ v, Cur w0 v → v.cell? ⟨B, 0, none⟩ = some (.slice a tn cap) ∧ v.cell? ⟨B, 1, none⟩ = some (.int .i64 t.base) ∧ v.cell? ⟨B + 1, 0, none⟩ = some (.slice a' tn' cap') ∧ v.cell? ⟨B + 1, 1, none⟩ = some (.int .i64 t'.base) := fun v hv => ⟨hv.cell c0, hv.cell c1, hv.cell d0, hv.cell d1⟩
  have gen : ∀ (u : Ty) (s : Value) (cur : World), Cur w0 cur → Holds w0 okT u.args s → u.size ≤ 900000 → Calls Try.prog 132 #[.slice none 0 0, tv s u.base] cur fun e w' => ∃ v, e = .returned v ∧ IntsAt w' v u.szs ∧ Cur w0 w' ∧ Below cur.heap.size cur w' := fun u s cur hc hu hs => by
    refine (sizes_calls cur.heap.size u [] (.slice none 0 0) s cur (World.ownsRow_nil _ _ _ _) (Nat.le_refl _) ((hc.holds hu).mono fun b _ _ => by simp [Value.ownBlock]) (by simp; omega)).mono ?_
    rintro e w' ⟨v, h1, h2, h3, h4⟩
    have hbb : Below cur.heap.size cur w' := (Below.refl _ _).grown h3 (Nat.le_refl _) (fun k hk => by simp [Value.ownBlock] at hk)
    exact ⟨v, h1, intsAt_row h2 (by simp [u.szs_length]) (by have := u.size_pos; simp; omega) (by simp; omega), hc.then hbb, hbb⟩
  have kA := fun (cur : World) (hc : Cur w0 cur) => gen t (.slice a tn cap) cur hc h0 hsz
  have kB := fun (cur : World) (hc : Cur w0 cur) => gen t' (.slice a' tn' cap') cur hc h0' hsz'
  have kC : ∀ (cur : World) (va vb : Value), Cur w0 cur → IntsAt cur va t.szs → IntsAt cur vb t'.szs → Calls Try.prog 131 #[tv (.slice a tn cap) t.base, tv (.slice a' tn' cap') t'.base, va, vb] cur fun e w' => e = .returned (.int .i64 (t.cmp t')) ∧ Cur w0 w' := fun cur va vb hc h1 h2 =>
    Calls.cur hc (compare_calls t t' okT _ _ va vb cur (hc.holds h0) (hc.holds h0') h1 h2 (by omega) (by omega))
  clear gen
  have hcur := Cur.refl w0
  go_region_held3 (fun v => v.cell? ⟨B, 0, none⟩ = some (.slice a tn cap) ∧ v.cell? ⟨B, 1, none⟩ = some (.int .i64 t.base) ∧ v.cell? ⟨B + 1, 0, none⟩ = some (.slice a' tn' cap') ∧ v.cell? ⟨B + 1, 1, none⟩ = some (.int .i64 t'.base))
    (first | exact hK _ (by first | assumption | (refine Cur.drew ?_; assumption)))
    (first
      | (go_at_call 132; with_reducible refine (kA _ (by first | assumption | (refine Cur.drew ?_; assumption))).mono ?_; rintro e y1 ⟨v1, rfl, n1, i1, f1⟩)
      | (go_at_call 132; with_reducible refine (kB _ (by first | assumption | (refine Cur.drew ?_; assumption))).mono ?_; rintro e y2 ⟨v2, rfl, n2, i2, f2⟩; have n3 := n1.bel f2)
      | (go_at_call 131; refine (kC _ _ _ (by first | assumption | (refine Cur.drew ?_; assumption)) n3 n2).mono ?_; rintro e y3 ⟨rfl, i3⟩))
  go_wp2
  go_ret
  exact ⟨rfl, bl0.trans (Below.mono i3 hz0)⟩

end Go.Proofs.Ytheokboggjnenaa
