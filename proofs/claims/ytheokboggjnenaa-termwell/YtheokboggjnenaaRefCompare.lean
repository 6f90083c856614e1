/-
  The contract of the document's own Compare.
-/
import Derived.Test.YtheokboggjnenaaRefCmp
import Derived.Test.YtheokboggjnenaaFewT
namespace Go.Proofs.Ytheokboggjnenaa
open Go Go.RowKit Go.Sort

theorem cmpL_drop {ts us : List Ty} {k : Nat} {t u : Ty} (ht : ts[k]? = some t) (hu : us[k]? = some u) (z : Int) : cmpL (ts.drop k) (us.drop k) z = if t.cmp u ≠ 0 then t.cmp u else cmpL (ts.drop (k + 1)) (us.drop (k + 1)) z := by
  obtain ⟨h1, e1⟩ := List.getElem?_eq_some_iff.1 ht
  obtain ⟨h2, e2⟩ := List.getElem?_eq_some_iff.1 hu
  rw [List.drop_eq_getElem_cons h1, List.drop_eq_getElem_cons h2, e1, e2]
  simp [cmpL]

set_option maxRecDepth 100000 in
set_option maxHeartbeats 3200000 in
theorem refCompare_calls (t : Ty) : ∀ (t' : Ty) (ok : Nat → Prop) (sl sl' : Value) (w : World), Holds w ok t.args sl → Holds w ok t'.args sl' → t.size ≤ 1000000 → t'.size ≤ 1000000 →
    Calls Try.prog 71 #[tv sl t.base, tv sl' t'.base] w fun e w' => e = .returned (.int .i64 (t.cmp t')) ∧ Below w.heap.size w w' := by
  induction t using Ty.ind with
  | h t ih =>
  intro t' ok sl sl' w hh hh' hsz hsz'
  obtain ⟨ts, hts⟩ : ∃ ts, t.args = ts := ⟨_, rfl⟩
  obtain ⟨us, hus⟩ : ∃ us, t'.args = us := ⟨_, rfl⟩
  have hsz2 := t.size_eq
  have hsz2' := t'.size_eq
  have hse := t.cmp_eq t'
  rw [hts] at hsz2 hse ih
  rw [hus] at hsz2' hse
  have HC : Hid _ := hse
  clear hse
  have hh1 := hh
  have hh1' := hh'
  rw [hts] at hh1
  rw [hus] at hh1'
  obtain ⟨a, cap, rfl, hcap, hat⟩ := hh1.shape
  have HA : Hid _ := hat
  obtain ⟨a', cap', rfl, hcap', hat'⟩ := hh1'.shape
  have HA' : Hid _ := hat'
  clear hat hat' hh1 hh1'
  have hln := sizeL_length ts
  have hln' := sizeL_length us
  have hlt1 : sizeL ts < t.size := by omega
  have hlt2 : sizeL us < t'.size := by omega
  clear hsz2 hsz2'
  obtain ⟨B, hB⟩ : ∃ B, w.heap.size = B := ⟨_, rfl⟩
  rw [hB]
  go_enter Try.func71, Try.ntmps71
  go_wp2_with fail
  generalize hw0 : (w.alloc (.cells #[.slice a ts.length cap, .int .i64 t.base] 55)).alloc (.cells #[.slice a' us.length cap', .int .i64 t'.base] 55) = w0
  have b0 : Blk w0 B 55 #[.slice a ts.length cap, .int .i64 t.base] := by rw [← hw0]; exact (Blk.new' w B 55 _ hB).alloc _
  have b1 : Blk w0 (B + 1) 55 #[.slice a' us.length cap', .int .i64 t'.base] := by rw [← hw0]; exact Blk.new' _ (B + 1) 55 _ (by simp [hB])
  have bl0 : Below B w w0 := by rw [← hw0]; exact ((Below.refl B w).alloc (by omega) _).alloc (by simp; omega) _
  have h0 : Holds w0 ok t.args (.slice a ts.length cap) := hh.bel (by rw [hB]; exact bl0)
  have h0' : Holds w0 ok t'.args (.slice a' us.length cap') := hh'.bel (by rw [hB]; exact bl0)
  have hz0 : B ≤ w0.heap.size := by have := bl0.size; omega
  clear hw0
  have c0 := b0.cell 0
  have c1 := b0.cell 1
  have d0 := b1.cell 0
  have d1 := b1.cell 1
  have hK : ∀ v, Cur w0 v → v.cell? ⟨B, 0, none⟩ = some (.slice a ts.length cap) ∧ v.cell? ⟨B, 1, none⟩ = some (.int .i64 t.base) ∧ v.cell? ⟨B + 1, 0, none⟩ = some (.slice a' us.length cap') ∧ v.cell? ⟨B + 1, 1, none⟩ = some (.int .i64 t'.base) := fun v hv => ⟨hv.cell c0, hv.cell c1, hv.cell d0, hv.cell d1⟩
  have kA := fun (cur : World) (hc : Cur w0 cur) => Calls.cur hc (Size_calls t ok _ cur (hc.holds h0) (by omega))
  have kB := fun (cur : World) (hc : Cur w0 cur) => Calls.cur hc (Size_calls t' ok _ cur (hc.holds h0') (by omega))
  have kS := fun (cur : World) (hc : Cur w0 cur) => (sign_calls (t.size : Int) (t'.size : Int) cur).mono (R' := fun e w' => e = .returned (.int .i64 (sgn t.size t'.size)) ∧ Cur w0 w') (fun e w' ⟨h1, h2⟩ => ⟨h1, h2 ▸ hc⟩)
  have hcur := Cur.refl w0
  go_region_held3 (fun v => v.cell? ⟨B, 0, none⟩ = some (.slice a ts.length cap) ∧ v.cell? ⟨B, 1, none⟩ = some (.int .i64 t.base) ∧ v.cell? ⟨B + 1, 0, none⟩ = some (.slice a' us.length cap') ∧ v.cell? ⟨B + 1, 1, none⟩ = some (.int .i64 t'.base))
    (first | exact hK _ (by first | assumption | (refine Cur.drew ?_; assumption)))
    (first
      | (go_at_call 105; with_reducible refine (kA _ (by first | assumption | (refine Cur.drew ?_; assumption))).mono ?_; rintro e y1 ⟨rfl, i1⟩)
      | (go_at_call 105; with_reducible refine (kB _ (by first | assumption | (refine Cur.drew ?_; assumption))).mono ?_; rintro e y2 ⟨rfl, i2⟩))
  clear hcur i1
  have e2 := (hK _ i2)
  obtain ⟨r0, r1, r2, r3⟩ := e2
  by_cases hs : t.size = t'.size
  · have z1 : ((t.size : Int) != (t'.size : Int)) = false := by simp [hs]
    by_cases hle : ts.length = us.length
    · have z2 : ((ts.length : Int) != (us.length : Int)) = false := by simp [hle]
      have HR : Hid (t.cmp t' = cmpL ts us (sgn t.base t'.base)) := by show _ = _; rw [HC.out, if_neg (by omega), if_neg (by omega)]
      have HLE : Hid (ts.length = us.length) := hle
      clear hle hs kA kB kS
      go_wp2_with fail
      go_loopw [5] (fun i wr => ∃ k : Nat, k ≤ ts.length ∧ i = .int .i64 k ∧ Hid (cmpL (ts.drop k) (us.drop k) (sgn t.base t'.base) = cmpL ts us (sgn t.base t'.base)) ∧ Cur w0 wr)
        (fun i _ => ts.length - (intOf i).toNat)
      case atStart => exact ⟨0, Nat.zero_le _, rfl, rfl, i2⟩
      case round =>
        clear i2 r0 r1 r2 r3
        obtain ⟨k, hk, rfl, HF, hcw⟩ := hrel
        obtain ⟨r0, r1, r2, r3⟩ := hK _ hcw
        have hwr : B ≤ wr.heap.size := Nat.le_trans hz0 (Below.size hcw)
        by_cases hlt : k < ts.length
        · obtain ⟨u, hu⟩ : ∃ u, ts[k]? = some u := ⟨_, List.getElem?_eq_getElem hlt⟩
          have hlt' : k < us.length := by have := HLE.out; omega
          obtain ⟨v, hv⟩ : ∃ v, us[k]? = some v := ⟨_, List.getElem?_eq_getElem hlt'⟩
          obtain ⟨g, o, s, rfl, _, hg, a0, a1, hs⟩ := HA.out k u hu
          obtain ⟨g', o', s', rfl, _, hg', e0, e1, hs'⟩ := HA'.out k v hv
          rw [hB] at hg hg'
          have bw : Below B w wr := bl0.trans (Below.mono hcw hz0)
          have q0 := fun d os => cell_regrown ((cat bw hg).trans a0) d os
          have q1 := fun d os => cell_regrown ((cat bw hg).trans a1) d os
          have p0 := fun d os => cell_regrown ((cat bw hg').trans e0) d os
          have p1 := fun d os => cell_regrown ((cat bw hg').trans e1) d os
          have m0 := fun d os => cell_regrown r0 d os
          have m1 := fun d os => cell_regrown r2 d os
          have hm := List.mem_of_getElem? hu
          have hm' := List.mem_of_getElem? hv
          have hus2 := size_mem hm
          have hus3 := size_mem hm'
          have y1 : (0 : Int) ≤ (k : Int) := by omega
          have y2 : (k : Int) < (ts.length : Int) := by omega
          have y3 : (k : Int) < (us.length : Int) := by omega
          have hs2 : Holds wr ok u.args s := hs.bel (by rw [hB]; exact bw)
          have hs2' : Holds wr ok v.args s' := hs'.bel (by rw [hB]; exact bw)
          have HD := cmpL_drop hu hv (sgn t.base t'.base)
          rw [HF.out] at HD
          have HD2 : Hid _ := HD
          clear a0 a1 e0 e1 hu hv HD HF
          obtain ⟨r, hr⟩ : ∃ r, u.cmp v = r := ⟨_, rfl⟩
          have CC : Hid (∀ d os, Calls Try.prog 71 #[tv s u.base, tv s' v.base] (grow (redrawn wr d) os) fun e w'' => e = .returned (.int .i64 r) ∧ ∃ p : Regrown, w'' = grow (redrawn wr p.d) p.os) := fun d os =>
            Calls.regrown_of (by rw [← hr]; exact ih u hm v ok s s' _ (hs2.bel (below_regrown wr d os)) (hs2'.bel (below_regrown wr d os)) (by omega) (by omega))
          rw [hr] at HD2
          clear hr
          go_wp2_with fail
          refine wp_region_quiet_below (by kernel_rfl) (by kernel_rfl) ?_
          repeat (go_big_quiet_step ((go_at_call 71; exact CC.out _ _)))
          refine wpQuiet_nil ?_
          intro w1 hw'
          obtain ⟨p, hw''⟩ := hw'
          have hb1 : Below wr.heap.size wr w1 := by rw [hw'']; exact below_regrown _ _ _
          clear hw'' p q0 q1 p0 p1 m0 m1 CC
          have hc1 : Cur w0 w1 := hcw.then hb1
          by_cases h0 : r = 0
          · have z3 : (r != 0) = false := by simp [h0]
            have HF2 : Hid (cmpL (ts.drop (k + 1)) (us.drop (k + 1)) (sgn t.base t'.base) = cmpL ts us (sgn t.base t'.base)) := by show _ = _; rw [HD2.out, if_neg (by simpa using h0)]
            clear h0
            go_wp2
            go_roundw
            case rel => exact ⟨k + 1, by omega, by go_num, HF2, hc1⟩
            case measure => simp [intOf]; omega
          · have z3 : (r != 0) = true := by simp [h0]
            have HF2 : Hid (t.cmp t' = r) := by show _ = _; rw [HR.out, HD2.out, if_pos h0]
            clear h0
            go_wp2
            go_ret
            exact ⟨ret_int HF2.out.symm, bl0.trans (Below.mono hc1 hz0)⟩
        · obtain rfl : k = ts.length := by omega
          have HF2 : Hid (t.cmp t' = sgn t.base t'.base) := by
            show _ = _
            rw [HR.out, ← HF.out, List.drop_length, show us.drop ts.length = [] by rw [HLE.out, List.drop_length]]
            rfl
          go_wp2_with (go_at_call 106; refine (sign_calls _ _ _).mono ?_; rintro e w' ⟨rfl, rfl⟩)
          go_ret
          exact ⟨ret_int HF2.out.symm, bl0.trans (Below.mono hcw hz0)⟩
    · have z2 : ((ts.length : Int) != (us.length : Int)) = true := by simp; omega
      have HR : Hid (t.cmp t' = sgn ts.length us.length) := by show _ = _; rw [HC.out, if_neg (by omega), if_pos hle]
      clear hle hs kA kB kS
      go_wp2_with (go_at_call 106; refine (sign_calls _ _ _).mono ?_; rintro e w' ⟨rfl, rfl⟩)
      go_ret
      exact ⟨ret_int HR.out.symm, bl0.trans (Below.mono i2 hz0)⟩
  · have z1 : ((t.size : Int) != (t'.size : Int)) = true := by simp; omega
    have HR : Hid (t.cmp t' = sgn t.size t'.size) := by show _ = _; rw [HC.out, if_pos hs]
    clear hs
    go_wp2_with fail
    go_region_held3 (fun v => v.cell? ⟨B, 0, none⟩ = some (.slice a ts.length cap) ∧ v.cell? ⟨B, 1, none⟩ = some (.int .i64 t.base) ∧ v.cell? ⟨B + 1, 0, none⟩ = some (.slice a' us.length cap') ∧ v.cell? ⟨B + 1, 1, none⟩ = some (.int .i64 t'.base))
      (first | exact hK _ (by first | assumption | (refine Cur.drew ?_; assumption)))
      (first
        | (go_at_call 105; with_reducible refine (kA _ (by first | assumption | (refine Cur.drew ?_; assumption))).mono ?_; rintro e y3 ⟨rfl, i3⟩)
        | (go_at_call 105; with_reducible refine (kB _ (by first | assumption | (refine Cur.drew ?_; assumption))).mono ?_; rintro e y4 ⟨rfl, i4⟩)
        | (go_at_call 106; with_reducible refine (kS _ (by first | assumption | (refine Cur.drew ?_; assumption))).mono ?_; rintro e y5 ⟨rfl, i5⟩))
    go_wp2
    go_ret
    exact ⟨ret_int HR.out.symm, bl0.trans (Below.mono i5 hz0)⟩

end Go.Proofs.Ytheokboggjnenaa
