/-
  The contract of the document's Same of raw terms.
-/
import Derived.Test.YtckagmagjogmnaaRightR
import Derived.Test.YtckagmagjogmnaaSame
import Derived.Lib.QuietBelow
namespace Go.Proofs.Ytckagmagjogmnaa
open Go Go.RowKit Go.Sort

set_option maxRecDepth 100000 in
set_option maxHeartbeats 3200000 in
theorem SameR_calls (t : Rw) : ∀ (t' : Rw) (ok ok' : Nat → Prop) (sb sl sb' sl' : Value) (w : World), Holds w ok t.ty.args sb → HoldsR w ok t.kids sl → Holds w ok' t'.ty.args sb' → HoldsR w ok' t'.kids sl' → t.total ≤ 1000000 →
    Calls Try.prog 18 #[rwv t.kind sb t.ty.base t.idx sl, rwv t'.kind sb' t'.ty.base t'.idx sl'] w fun e w' => e = .returned (.bool (t.same t')) ∧ Below w.heap.size w w' := by
  induction t using Rw.ind with
  | h t ih =>
  intro t' ok ok' sb sl sb' sl' w hb ha hb' ha' hsz
  obtain ⟨ts, hts⟩ : ∃ ts, t.kids = ts := ⟨_, rfl⟩
  obtain ⟨us, hus⟩ : ∃ us, t'.kids = us := ⟨_, rfl⟩
  have hse := t.same_eq t'
  have htot := t.total_eq
  rw [hts] at htot
  rw [hts, hus] at hse
  rw [hts] at ha ih
  rw [hus] at ha'
  have HL : Hid _ := hse
  have HIH : Hid _ := ih
  have HTOT : Hid _ := htot
  have hln := totalR_length ts
  have hkl : ts.length ≤ 1000000 := by omega
  obtain ⟨B, hB⟩ : ∃ B, w.heap.size = B := ⟨_, rfl⟩
  have HB : Hid (w.heap.size = B) := hB
  have hty0 := fun (cur : World) (h1 : Holds cur ok t.ty.args sb) (h2 : Holds cur ok' t'.ty.args sb') => Same_calls t.ty t'.ty ok ok' sb sb' cur h1 h2 (by omega)
  obtain ⟨x1, x2, hx, _⟩ := hb.shape
  obtain ⟨x3, x4, hx', _⟩ := hb'.shape
  generalize t.ty.args.length = bn at hx
  generalize t'.ty.args.length = bn' at hx'
  subst hx hx'
  obtain ⟨a, cap, rfl, hcap, hat⟩ := ha.shape
  have HA : Hid _ := hat
  obtain ⟨a', cap', rfl, hcap', hat'⟩ := ha'.shape
  have HA' : Hid _ := hat'
  clear hat hat' hse ih
  rw [hB]
  obtain ⟨rs, hrs⟩ : ∃ rs, t.same t' = rs := ⟨_, rfl⟩
  obtain ⟨ka, hka⟩ : ∃ ka, t.kind = ka := ⟨_, rfl⟩
  obtain ⟨kb, hkb⟩ : ∃ kb, t'.kind = kb := ⟨_, rfl⟩
  obtain ⟨ia, hia⟩ : ∃ ia, t.idx = ia := ⟨_, rfl⟩
  obtain ⟨ib, hib⟩ : ∃ ib, t'.idx = ib := ⟨_, rfl⟩
  obtain ⟨r1, hr1⟩ : ∃ r, t.ty.same t'.ty = r := ⟨_, rfl⟩
  rw [hrs, hka, hkb, hia, hib, hr1] at HL
  rw [hrs, hka, hkb, hia, hib]
  obtain ⟨w0, hw0⟩ : ∃ w0, (w.alloc (.cells #[.int .i64 ka, .slice x1 bn x2, .int .i64 t.ty.base, .int .i64 ia, .slice a ts.length cap] 27)).alloc (.cells #[.int .i64 kb, .slice x3 bn' x4, .int .i64 t'.ty.base, .int .i64 ib, .slice a' us.length cap'] 27) = w0 := ⟨_, rfl⟩
  have b0 : Blk w0 B 27 #[.int .i64 ka, .slice x1 bn x2, .int .i64 t.ty.base, .int .i64 ia, .slice a ts.length cap] := by rw [← hw0]; exact (Blk.new' w B 27 _ hB).alloc _
  have b1 : Blk w0 (B + 1) 27 #[.int .i64 kb, .slice x3 bn' x4, .int .i64 t'.ty.base, .int .i64 ib, .slice a' us.length cap'] := by rw [← hw0]; exact Blk.new' _ (B + 1) 27 _ (by simp [hB])
  have bl0 : Below B w w0 := by rw [← hw0]; exact ((Below.refl B w).alloc (by omega) _).alloc (by simp; omega) _
  have hty := hty0 w0 (hb.bel (hB ▸ bl0)) (hb'.bel (hB ▸ bl0))
  rw [hr1] at hty
  have c0 := b0.cell 0
  have c1 := b0.cell 1
  have c2 := b0.cell 2
  have c3 := b0.cell 3
  have c4 := b0.cell 4
  have e0 := b1.cell 0
  have e1 := b1.cell 1
  have e2 := b1.cell 2
  have e3 := b1.cell 3
  have e4 := b1.cell 4
  have HW : Hid _ := hw0
  clear hrs hts hus hka hkb hia hib hr1 hw0 hty0 hb hb' ha ha' htot hln
  by_cases hk : ka = kb
  · subst hk
    by_cases hle : ts.length = us.length
    · have z2 : ((ts.length : Int) != (us.length : Int)) = false := by simp [hle]
      have HLE : Hid (ts.length = us.length) := hle
      clear hle
      by_cases h3 : ka = 3
      · subst h3
        have HR : Hid (rs = (r1 && sameR ts us)) := by show _ = _; rw [HL.out]; cases r1 <;> simp [isHd]
        clear HL
        go_enter Try.func18, Try.ntmps18
        go_upto_region 1 with fail
        rw [HW.out]
        clear HW
        go_wp2_with fail
        refine hty.mono ?_
        rintro e w1 ⟨rfl, hb1⟩
        replace b0 := b0.below hb1 b0.lt
        replace b1 := b1.below hb1 b1.lt
        replace bl0 : Below B w w1 := bl0.trans (hb1.mono (by have := bl0.size; omega))
        clear hty hb1 c0 c1 c2 c3 c4 e0 e1 e2 e3 e4
        cases r1 with
        | false =>
          go_wp2
          go_ret
          exact ⟨ret_bool (by rw [HR.out]; rfl), bl0⟩
        | true =>
          have HR3 : Hid (rs = sameR ts us) := by show _ = _; rw [HR.out]; exact Bool.true_and _
          clear HR
          have c4 := b0.cell 4
          have c0 := b0.cell 0
          have c1 := b0.cell 1
          go_wp2_with fail
          clear c4
          go_loopw [5] (fun i wr => ∃ k : Nat, k ≤ ts.length ∧ i = .int .i64 k ∧ Hid (SameUpR ts us k) ∧ Blk wr B 27 #[.int .i64 3, .slice x1 bn x2, .int .i64 t.ty.base, .int .i64 ia, .slice a ts.length cap] ∧ Blk wr (B + 1) 27 #[.int .i64 3, .slice x3 bn' x4, .int .i64 t'.ty.base, .int .i64 ib, .slice a' us.length cap'] ∧ Below B w wr) (fun i _ => ts.length - (intOf i).toNat)
          case atStart => exact ⟨0, Nat.zero_le _, rfl, fun _ _ _ h => by omega, b0, b1, bl0⟩
          case round =>
            clear b0 b1 bl0
            clear c0 c1
            try clear c0 c1 c2 c3 e0 e1 e2 e3 e4
            obtain ⟨k, hk, rfl, HF, k0, k1, hbl⟩ := hrel
            have m0' := k0.cell 4
            have m1' := k1.cell 4
            by_cases hlt : k < ts.length
            · obtain ⟨u, hu⟩ : ∃ u, ts[k]? = some u := ⟨_, List.getElem?_eq_getElem hlt⟩
              have hlt' : k < us.length := by have := HLE.out; omega
              obtain ⟨v, hv⟩ : ∃ v, us[k]? = some v := ⟨_, List.getElem?_eq_getElem hlt'⟩
              obtain ⟨g, o, s, r, rfl, _, hg, a0, a1, a2, a3, a4, hs, hr⟩ := HA.out k u hu
              obtain ⟨g', o', s', r', rfl, _, hg', d0, d1, d2, d3, d4, hs', hr'⟩ := HA'.out k v hv
              rw [HB.out] at hg hg'
              have q0 := fun d os => cell_regrown ((cat hbl hg).trans a0) d os
              have q1 := fun d os => cell_regrown ((cat hbl hg).trans a1) d os
              have q2 := fun d os => cell_regrown ((cat hbl hg).trans a2) d os
              have q3 := fun d os => cell_regrown ((cat hbl hg).trans a3) d os
              have q4 := fun d os => cell_regrown ((cat hbl hg).trans a4) d os
              have p0 := fun d os => cell_regrown ((cat hbl hg').trans d0) d os
              have p1 := fun d os => cell_regrown ((cat hbl hg').trans d1) d os
              have p2 := fun d os => cell_regrown ((cat hbl hg').trans d2) d os
              have p3 := fun d os => cell_regrown ((cat hbl hg').trans d3) d os
              have p4 := fun d os => cell_regrown ((cat hbl hg').trans d4) d os
              have m0 := fun d os => cell_regrown m0' d os
              have m1 := fun d os => cell_regrown m1' d os
              have hm := List.mem_of_getElem? hu
              have hus2 := rtotal_mem hm
              have y1 : (0 : Int) ≤ (k : Int) := by omega
              have y2 : (k : Int) < (ts.length : Int) := by omega
              have y3 : (k : Int) < (us.length : Int) := by omega
              have hs2 := hs.bel (HB.out ▸ hbl)
              have hs2' := hs'.bel (HB.out ▸ hbl)
              have hr2 := hr.bel (HB.out ▸ hbl)
              have hr2' := hr'.bel (HB.out ▸ hbl)
              have HU : Hid (ts[k]? = some u) := hu
              have HV : Hid (us[k]? = some v) := hv
              obtain ⟨rr, hrr⟩ : ∃ r, u.same v = r := ⟨_, rfl⟩
              have HR2 : Hid (u.same v = rr) := hrr
              have CC : Hid (∀ d os, Calls Try.prog 18 #[rwv u.kind s u.ty.base u.idx r, rwv v.kind s' v.ty.base v.idx r'] (grow (redrawn wr d) os) fun e w'' => e = .returned (.bool rr) ∧ ∃ p : Regrown, w'' = grow (redrawn wr p.d) p.os) := fun d os =>
                Calls.regrown_of (by rw [← hrr]; exact HIH.out u hm v ok ok' s r s' r' _ (hs2.bel (below_regrown wr d os)) (hr2.bel (below_regrown wr d os)) (hs2'.bel (below_regrown wr d os)) (hr2'.bel (below_regrown wr d os)) (by have := HTOT.out; omega))
              clear a0 a1 a2 a3 a4 d0 d1 d2 d3 d4 hu hv hrr hs hs' hr hr' hs2 hs2' hr2 hr2'
              go_wp2_with fail
              refine wp_region_quiet_below (by kernel_rfl) (by kernel_rfl) ?_
              repeat (go_big_quiet_step ((go_at_call 18; exact CC.out _ _)))
              refine wpQuiet_nil ?_
              intro w2 hw'
              obtain ⟨p, hw''⟩ := hw'
              have hb2 : Below wr.heap.size wr w2 := by rw [hw'']; exact below_regrown _ _ _
              clear hw'' p q0 q1 q2 q3 q4 p0 p1 p2 p3 p4 m0 m1
              have hB2 : Below B w w2 := hbl.trans (hb2.mono (by have := hbl.size; rw [HB.out] at this; omega))
              cases rr
              · go_wp2
                go_ret
                exact ⟨ret_bool (by rw [HR3.out]; exact (sameR_no _ _ _ _ _ HU.out HV.out HR2.out).symm), hB2⟩
              · go_wp2
                go_roundw
                case rel => exact ⟨k + 1, by omega, by go_num, HF.out.step HU.out HV.out HR2.out, k0.below hb2 k0.lt, k1.below hb2 k1.lt, hB2⟩
                case measure => simp [intOf]; omega
            · obtain rfl : k = ts.length := by omega
              go_wp2
              go_ret
              exact ⟨ret_bool (by rw [HR3.out]; exact (sameR_of_up _ _ HLE.out fun i x y hx hy => HF.out i x y (List.getElem?_eq_some_iff.1 hx).1 hx hy).symm), hbl⟩
      · have z3 : (ka == 3) = false := by simp [h3]
        rcases isHd_cases ka with ⟨h9, e9⟩ | ⟨h9, e9⟩ | ⟨h9, e9⟩ | ⟨h90, h91, h92, e9⟩
        · subst h9
          clear h3 e9
          by_cases hi : ia = ib
          · subst hi
            have HR3 : Hid (rs = sameR ts us) := by show _ = _; rw [HL.out]; simp
            clear HL hty
            go_enter Try.func18, Try.ntmps18
            go_upto_region 1 with fail
            rw [HW.out]
            clear HW
            replace c4 := b0.cell 4
            go_wp2_with fail
            clear c4
            go_loopw [5] (fun i wr => ∃ k : Nat, k ≤ ts.length ∧ i = .int .i64 k ∧ Hid (SameUpR ts us k) ∧ Blk wr B 27 #[.int .i64 0, .slice x1 bn x2, .int .i64 t.ty.base, .int .i64 ia, .slice a ts.length cap] ∧ Blk wr (B + 1) 27 #[.int .i64 0, .slice x3 bn' x4, .int .i64 t'.ty.base, .int .i64 ia, .slice a' us.length cap'] ∧ Below B w wr) (fun i _ => ts.length - (intOf i).toNat)
            case atStart => exact ⟨0, Nat.zero_le _, rfl, fun _ _ _ h => by omega, b0, b1, bl0⟩
            case round =>
              clear b0 b1 bl0
              try clear c0 c1 c2 c3 e0 e1 e2 e3 e4
              obtain ⟨k, hk, rfl, HF, k0, k1, hbl⟩ := hrel
              have m0' := k0.cell 4
              have m1' := k1.cell 4
              by_cases hlt : k < ts.length
              · obtain ⟨u, hu⟩ : ∃ u, ts[k]? = some u := ⟨_, List.getElem?_eq_getElem hlt⟩
                have hlt' : k < us.length := by have := HLE.out; omega
                obtain ⟨v, hv⟩ : ∃ v, us[k]? = some v := ⟨_, List.getElem?_eq_getElem hlt'⟩
                obtain ⟨g, o, s, r, rfl, _, hg, a0, a1, a2, a3, a4, hs, hr⟩ := HA.out k u hu
                obtain ⟨g', o', s', r', rfl, _, hg', d0, d1, d2, d3, d4, hs', hr'⟩ := HA'.out k v hv
                rw [HB.out] at hg hg'
                have q0 := fun d os => cell_regrown ((cat hbl hg).trans a0) d os
                have q1 := fun d os => cell_regrown ((cat hbl hg).trans a1) d os
                have q2 := fun d os => cell_regrown ((cat hbl hg).trans a2) d os
                have q3 := fun d os => cell_regrown ((cat hbl hg).trans a3) d os
                have q4 := fun d os => cell_regrown ((cat hbl hg).trans a4) d os
                have p0 := fun d os => cell_regrown ((cat hbl hg').trans d0) d os
                have p1 := fun d os => cell_regrown ((cat hbl hg').trans d1) d os
                have p2 := fun d os => cell_regrown ((cat hbl hg').trans d2) d os
                have p3 := fun d os => cell_regrown ((cat hbl hg').trans d3) d os
                have p4 := fun d os => cell_regrown ((cat hbl hg').trans d4) d os
                have m0 := fun d os => cell_regrown m0' d os
                have m1 := fun d os => cell_regrown m1' d os
                have hm := List.mem_of_getElem? hu
                have hus2 := rtotal_mem hm
                have y1 : (0 : Int) ≤ (k : Int) := by omega
                have y2 : (k : Int) < (ts.length : Int) := by omega
                have y3 : (k : Int) < (us.length : Int) := by omega
                have hs2 := hs.bel (HB.out ▸ hbl)
                have hs2' := hs'.bel (HB.out ▸ hbl)
                have hr2 := hr.bel (HB.out ▸ hbl)
                have hr2' := hr'.bel (HB.out ▸ hbl)
                have HU : Hid (ts[k]? = some u) := hu
                have HV : Hid (us[k]? = some v) := hv
                obtain ⟨rr, hrr⟩ : ∃ r, u.same v = r := ⟨_, rfl⟩
                have HR2 : Hid (u.same v = rr) := hrr
                have CC : Hid (∀ d os, Calls Try.prog 18 #[rwv u.kind s u.ty.base u.idx r, rwv v.kind s' v.ty.base v.idx r'] (grow (redrawn wr d) os) fun e w'' => e = .returned (.bool rr) ∧ ∃ p : Regrown, w'' = grow (redrawn wr p.d) p.os) := fun d os =>
                  Calls.regrown_of (by rw [← hrr]; exact HIH.out u hm v ok ok' s r s' r' _ (hs2.bel (below_regrown wr d os)) (hr2.bel (below_regrown wr d os)) (hs2'.bel (below_regrown wr d os)) (hr2'.bel (below_regrown wr d os)) (by have := HTOT.out; omega))
                clear a0 a1 a2 a3 a4 d0 d1 d2 d3 d4 hu hv hrr hs hs' hr hr' hs2 hs2' hr2 hr2'
                go_wp2_with fail
                refine wp_region_quiet_below (by kernel_rfl) (by kernel_rfl) ?_
                repeat (go_big_quiet_step ((go_at_call 18; exact CC.out _ _)))
                refine wpQuiet_nil ?_
                intro w2 hw'
                obtain ⟨p, hw''⟩ := hw'
                have hb2 : Below wr.heap.size wr w2 := by rw [hw'']; exact below_regrown _ _ _
                clear hw'' p q0 q1 q2 q3 q4 p0 p1 p2 p3 p4 m0 m1
                have hB2 : Below B w w2 := hbl.trans (hb2.mono (by have := hbl.size; rw [HB.out] at this; omega))
                cases rr
                · go_wp2
                  go_ret
                  exact ⟨ret_bool (by rw [HR3.out]; exact (sameR_no _ _ _ _ _ HU.out HV.out HR2.out).symm), hB2⟩
                · go_wp2
                  go_roundw
                  case rel => exact ⟨k + 1, by omega, by go_num, HF.out.step HU.out HV.out HR2.out, k0.below hb2 k0.lt, k1.below hb2 k1.lt, hB2⟩
                  case measure => simp [intOf]; omega
              · obtain rfl : k = ts.length := by omega
                go_wp2
                go_ret
                exact ⟨ret_bool (by rw [HR3.out]; exact (sameR_of_up _ _ HLE.out fun i x y hx hy => HF.out i x y (List.getElem?_eq_some_iff.1 hx).1 hx hy).symm), hbl⟩
          · have zi : (ia != ib) = true := by simp [hi]
            have HR : Hid (rs = false) := by show _ = _; rw [HL.out]; simp [hi, isHd]
            clear HL hty hi
            go_enter Try.func18, Try.ntmps18
            go_upto_region 1 with fail
            rw [HW.out]
            clear HW
            go_wp2
            go_ret
            exact ⟨ret_bool HR.out.symm, bl0⟩
        · subst h9
          clear h3 e9
          by_cases hi : ia = ib
          · subst hi
            have HR3 : Hid (rs = sameR ts us) := by show _ = _; rw [HL.out]; simp
            clear HL hty
            go_enter Try.func18, Try.ntmps18
            go_upto_region 1 with fail
            rw [HW.out]
            clear HW
            replace c4 := b0.cell 4
            go_wp2_with fail
            clear c4
            go_loopw [5] (fun i wr => ∃ k : Nat, k ≤ ts.length ∧ i = .int .i64 k ∧ Hid (SameUpR ts us k) ∧ Blk wr B 27 #[.int .i64 1, .slice x1 bn x2, .int .i64 t.ty.base, .int .i64 ia, .slice a ts.length cap] ∧ Blk wr (B + 1) 27 #[.int .i64 1, .slice x3 bn' x4, .int .i64 t'.ty.base, .int .i64 ia, .slice a' us.length cap'] ∧ Below B w wr) (fun i _ => ts.length - (intOf i).toNat)
            case atStart => exact ⟨0, Nat.zero_le _, rfl, fun _ _ _ h => by omega, b0, b1, bl0⟩
            case round =>
              clear b0 b1 bl0
              try clear c0 c1 c2 c3 e0 e1 e2 e3 e4
              obtain ⟨k, hk, rfl, HF, k0, k1, hbl⟩ := hrel
              have m0' := k0.cell 4
              have m1' := k1.cell 4
              by_cases hlt : k < ts.length
              · obtain ⟨u, hu⟩ : ∃ u, ts[k]? = some u := ⟨_, List.getElem?_eq_getElem hlt⟩
                have hlt' : k < us.length := by have := HLE.out; omega
                obtain ⟨v, hv⟩ : ∃ v, us[k]? = some v := ⟨_, List.getElem?_eq_getElem hlt'⟩
                obtain ⟨g, o, s, r, rfl, _, hg, a0, a1, a2, a3, a4, hs, hr⟩ := HA.out k u hu
                obtain ⟨g', o', s', r', rfl, _, hg', d0, d1, d2, d3, d4, hs', hr'⟩ := HA'.out k v hv
                rw [HB.out] at hg hg'
                have q0 := fun d os => cell_regrown ((cat hbl hg).trans a0) d os
                have q1 := fun d os => cell_regrown ((cat hbl hg).trans a1) d os
                have q2 := fun d os => cell_regrown ((cat hbl hg).trans a2) d os
                have q3 := fun d os => cell_regrown ((cat hbl hg).trans a3) d os
                have q4 := fun d os => cell_regrown ((cat hbl hg).trans a4) d os
                have p0 := fun d os => cell_regrown ((cat hbl hg').trans d0) d os
                have p1 := fun d os => cell_regrown ((cat hbl hg').trans d1) d os
                have p2 := fun d os => cell_regrown ((cat hbl hg').trans d2) d os
                have p3 := fun d os => cell_regrown ((cat hbl hg').trans d3) d os
                have p4 := fun d os => cell_regrown ((cat hbl hg').trans d4) d os
                have m0 := fun d os => cell_regrown m0' d os
                have m1 := fun d os => cell_regrown m1' d os
                have hm := List.mem_of_getElem? hu
                have hus2 := rtotal_mem hm
                have y1 : (0 : Int) ≤ (k : Int) := by omega
                have y2 : (k : Int) < (ts.length : Int) := by omega
                have y3 : (k : Int) < (us.length : Int) := by omega
                have hs2 := hs.bel (HB.out ▸ hbl)
                have hs2' := hs'.bel (HB.out ▸ hbl)
                have hr2 := hr.bel (HB.out ▸ hbl)
                have hr2' := hr'.bel (HB.out ▸ hbl)
                have HU : Hid (ts[k]? = some u) := hu
                have HV : Hid (us[k]? = some v) := hv
                obtain ⟨rr, hrr⟩ : ∃ r, u.same v = r := ⟨_, rfl⟩
                have HR2 : Hid (u.same v = rr) := hrr
                have CC : Hid (∀ d os, Calls Try.prog 18 #[rwv u.kind s u.ty.base u.idx r, rwv v.kind s' v.ty.base v.idx r'] (grow (redrawn wr d) os) fun e w'' => e = .returned (.bool rr) ∧ ∃ p : Regrown, w'' = grow (redrawn wr p.d) p.os) := fun d os =>
                  Calls.regrown_of (by rw [← hrr]; exact HIH.out u hm v ok ok' s r s' r' _ (hs2.bel (below_regrown wr d os)) (hr2.bel (below_regrown wr d os)) (hs2'.bel (below_regrown wr d os)) (hr2'.bel (below_regrown wr d os)) (by have := HTOT.out; omega))
                clear a0 a1 a2 a3 a4 d0 d1 d2 d3 d4 hu hv hrr hs hs' hr hr' hs2 hs2' hr2 hr2'
                go_wp2_with fail
                refine wp_region_quiet_below (by kernel_rfl) (by kernel_rfl) ?_
                repeat (go_big_quiet_step ((go_at_call 18; exact CC.out _ _)))
                refine wpQuiet_nil ?_
                intro w2 hw'
                obtain ⟨p, hw''⟩ := hw'
                have hb2 : Below wr.heap.size wr w2 := by rw [hw'']; exact below_regrown _ _ _
                clear hw'' p q0 q1 q2 q3 q4 p0 p1 p2 p3 p4 m0 m1
                have hB2 : Below B w w2 := hbl.trans (hb2.mono (by have := hbl.size; rw [HB.out] at this; omega))
                cases rr
                · go_wp2
                  go_ret
                  exact ⟨ret_bool (by rw [HR3.out]; exact (sameR_no _ _ _ _ _ HU.out HV.out HR2.out).symm), hB2⟩
                · go_wp2
                  go_roundw
                  case rel => exact ⟨k + 1, by omega, by go_num, HF.out.step HU.out HV.out HR2.out, k0.below hb2 k0.lt, k1.below hb2 k1.lt, hB2⟩
                  case measure => simp [intOf]; omega
              · obtain rfl : k = ts.length := by omega
                go_wp2
                go_ret
                exact ⟨ret_bool (by rw [HR3.out]; exact (sameR_of_up _ _ HLE.out fun i x y hx hy => HF.out i x y (List.getElem?_eq_some_iff.1 hx).1 hx hy).symm), hbl⟩
          · have zi : (ia != ib) = true := by simp [hi]
            have HR : Hid (rs = false) := by show _ = _; rw [HL.out]; simp [hi, isHd]
            clear HL hty hi
            go_enter Try.func18, Try.ntmps18
            go_upto_region 1 with fail
            rw [HW.out]
            clear HW
            go_wp2
            go_ret
            exact ⟨ret_bool HR.out.symm, bl0⟩
        · subst h9
          clear h3 e9
          by_cases hi : ia = ib
          · subst hi
            have HR3 : Hid (rs = sameR ts us) := by show _ = _; rw [HL.out]; simp
            clear HL hty
            go_enter Try.func18, Try.ntmps18
            go_upto_region 1 with fail
            rw [HW.out]
            clear HW
            replace c4 := b0.cell 4
            go_wp2_with fail
            clear c4
            go_loopw [5] (fun i wr => ∃ k : Nat, k ≤ ts.length ∧ i = .int .i64 k ∧ Hid (SameUpR ts us k) ∧ Blk wr B 27 #[.int .i64 2, .slice x1 bn x2, .int .i64 t.ty.base, .int .i64 ia, .slice a ts.length cap] ∧ Blk wr (B + 1) 27 #[.int .i64 2, .slice x3 bn' x4, .int .i64 t'.ty.base, .int .i64 ia, .slice a' us.length cap'] ∧ Below B w wr) (fun i _ => ts.length - (intOf i).toNat)
            case atStart => exact ⟨0, Nat.zero_le _, rfl, fun _ _ _ h => by omega, b0, b1, bl0⟩
            case round =>
              clear b0 b1 bl0
              try clear c0 c1 c2 c3 e0 e1 e2 e3 e4
              obtain ⟨k, hk, rfl, HF, k0, k1, hbl⟩ := hrel
              have m0' := k0.cell 4
              have m1' := k1.cell 4
              by_cases hlt : k < ts.length
              · obtain ⟨u, hu⟩ : ∃ u, ts[k]? = some u := ⟨_, List.getElem?_eq_getElem hlt⟩
                have hlt' : k < us.length := by have := HLE.out; omega
                obtain ⟨v, hv⟩ : ∃ v, us[k]? = some v := ⟨_, List.getElem?_eq_getElem hlt'⟩
                obtain ⟨g, o, s, r, rfl, _, hg, a0, a1, a2, a3, a4, hs, hr⟩ := HA.out k u hu
                obtain ⟨g', o', s', r', rfl, _, hg', d0, d1, d2, d3, d4, hs', hr'⟩ := HA'.out k v hv
                rw [HB.out] at hg hg'
                have q0 := fun d os => cell_regrown ((cat hbl hg).trans a0) d os
                have q1 := fun d os => cell_regrown ((cat hbl hg).trans a1) d os
                have q2 := fun d os => cell_regrown ((cat hbl hg).trans a2) d os
                have q3 := fun d os => cell_regrown ((cat hbl hg).trans a3) d os
                have q4 := fun d os => cell_regrown ((cat hbl hg).trans a4) d os
                have p0 := fun d os => cell_regrown ((cat hbl hg').trans d0) d os
                have p1 := fun d os => cell_regrown ((cat hbl hg').trans d1) d os
                have p2 := fun d os => cell_regrown ((cat hbl hg').trans d2) d os
                have p3 := fun d os => cell_regrown ((cat hbl hg').trans d3) d os
                have p4 := fun d os => cell_regrown ((cat hbl hg').trans d4) d os
                have m0 := fun d os => cell_regrown m0' d os
                have m1 := fun d os => cell_regrown m1' d os
                have hm := List.mem_of_getElem? hu
                have hus2 := rtotal_mem hm
                have y1 : (0 : Int) ≤ (k : Int) := by omega
                have y2 : (k : Int) < (ts.length : Int) := by omega
                have y3 : (k : Int) < (us.length : Int) := by omega
                have hs2 := hs.bel (HB.out ▸ hbl)
                have hs2' := hs'.bel (HB.out ▸ hbl)
                have hr2 := hr.bel (HB.out ▸ hbl)
                have hr2' := hr'.bel (HB.out ▸ hbl)
                have HU : Hid (ts[k]? = some u) := hu
                have HV : Hid (us[k]? = some v) := hv
                obtain ⟨rr, hrr⟩ : ∃ r, u.same v = r := ⟨_, rfl⟩
                have HR2 : Hid (u.same v = rr) := hrr
                have CC : Hid (∀ d os, Calls Try.prog 18 #[rwv u.kind s u.ty.base u.idx r, rwv v.kind s' v.ty.base v.idx r'] (grow (redrawn wr d) os) fun e w'' => e = .returned (.bool rr) ∧ ∃ p : Regrown, w'' = grow (redrawn wr p.d) p.os) := fun d os =>
                  Calls.regrown_of (by rw [← hrr]; exact HIH.out u hm v ok ok' s r s' r' _ (hs2.bel (below_regrown wr d os)) (hr2.bel (below_regrown wr d os)) (hs2'.bel (below_regrown wr d os)) (hr2'.bel (below_regrown wr d os)) (by have := HTOT.out; omega))
                clear a0 a1 a2 a3 a4 d0 d1 d2 d3 d4 hu hv hrr hs hs' hr hr' hs2 hs2' hr2 hr2'
                go_wp2_with fail
                refine wp_region_quiet_below (by kernel_rfl) (by kernel_rfl) ?_
                repeat (go_big_quiet_step ((go_at_call 18; exact CC.out _ _)))
                refine wpQuiet_nil ?_
                intro w2 hw'
                obtain ⟨p, hw''⟩ := hw'
                have hb2 : Below wr.heap.size wr w2 := by rw [hw'']; exact below_regrown _ _ _
                clear hw'' p q0 q1 q2 q3 q4 p0 p1 p2 p3 p4 m0 m1
                have hB2 : Below B w w2 := hbl.trans (hb2.mono (by have := hbl.size; rw [HB.out] at this; omega))
                cases rr
                · go_wp2
                  go_ret
                  exact ⟨ret_bool (by rw [HR3.out]; exact (sameR_no _ _ _ _ _ HU.out HV.out HR2.out).symm), hB2⟩
                · go_wp2
                  go_roundw
                  case rel => exact ⟨k + 1, by omega, by go_num, HF.out.step HU.out HV.out HR2.out, k0.below hb2 k0.lt, k1.below hb2 k1.lt, hB2⟩
                  case measure => simp [intOf]; omega
              · obtain rfl : k = ts.length := by omega
                go_wp2
                go_ret
                exact ⟨ret_bool (by rw [HR3.out]; exact (sameR_of_up _ _ HLE.out fun i x y hx hy => HF.out i x y (List.getElem?_eq_some_iff.1 hx).1 hx hy).symm), hbl⟩
          · have zi : (ia != ib) = true := by simp [hi]
            have HR : Hid (rs = false) := by show _ = _; rw [HL.out]; simp [hi, isHd]
            clear HL hty hi
            go_enter Try.func18, Try.ntmps18
            go_upto_region 1 with fail
            rw [HW.out]
            clear HW
            go_wp2
            go_ret
            exact ⟨ret_bool HR.out.symm, bl0⟩
        · have HR3 : Hid (rs = sameR ts us) := by show _ = _; rw [HL.out, z3, e9]; simp
          clear HL hty
          by_cases hneg : 0 ≤ ka
          · have y8 : decide (0 ≤ ka) = true := by simp; omega
            have y9 : decide (ka < 3) = false := by simp; omega
            clear h90 h91 h92 e9 h3
            go_enter Try.func18, Try.ntmps18
            go_upto_region 1 with fail
            rw [HW.out]
            clear HW
            replace c4 := b0.cell 4
            go_wp2_with fail
            clear c4
            go_loopw [5] (fun i wr => ∃ k : Nat, k ≤ ts.length ∧ i = .int .i64 k ∧ Hid (SameUpR ts us k) ∧ Blk wr B 27 #[.int .i64 ka, .slice x1 bn x2, .int .i64 t.ty.base, .int .i64 ia, .slice a ts.length cap] ∧ Blk wr (B + 1) 27 #[.int .i64 ka, .slice x3 bn' x4, .int .i64 t'.ty.base, .int .i64 ib, .slice a' us.length cap'] ∧ Below B w wr) (fun i _ => ts.length - (intOf i).toNat)
            case atStart => exact ⟨0, Nat.zero_le _, rfl, fun _ _ _ h => by omega, b0, b1, bl0⟩
            case round =>
              clear b0 b1 bl0
              try clear c0 c1 c2 c3 e0 e1 e2 e3 e4
              obtain ⟨k, hk, rfl, HF, k0, k1, hbl⟩ := hrel
              have m0' := k0.cell 4
              have m1' := k1.cell 4
              by_cases hlt : k < ts.length
              · obtain ⟨u, hu⟩ : ∃ u, ts[k]? = some u := ⟨_, List.getElem?_eq_getElem hlt⟩
                have hlt' : k < us.length := by have := HLE.out; omega
                obtain ⟨v, hv⟩ : ∃ v, us[k]? = some v := ⟨_, List.getElem?_eq_getElem hlt'⟩
                obtain ⟨g, o, s, r, rfl, _, hg, a0, a1, a2, a3, a4, hs, hr⟩ := HA.out k u hu
                obtain ⟨g', o', s', r', rfl, _, hg', d0, d1, d2, d3, d4, hs', hr'⟩ := HA'.out k v hv
                rw [HB.out] at hg hg'
                have q0 := fun d os => cell_regrown ((cat hbl hg).trans a0) d os
                have q1 := fun d os => cell_regrown ((cat hbl hg).trans a1) d os
                have q2 := fun d os => cell_regrown ((cat hbl hg).trans a2) d os
                have q3 := fun d os => cell_regrown ((cat hbl hg).trans a3) d os
                have q4 := fun d os => cell_regrown ((cat hbl hg).trans a4) d os
                have p0 := fun d os => cell_regrown ((cat hbl hg').trans d0) d os
                have p1 := fun d os => cell_regrown ((cat hbl hg').trans d1) d os
                have p2 := fun d os => cell_regrown ((cat hbl hg').trans d2) d os
                have p3 := fun d os => cell_regrown ((cat hbl hg').trans d3) d os
                have p4 := fun d os => cell_regrown ((cat hbl hg').trans d4) d os
                have m0 := fun d os => cell_regrown m0' d os
                have m1 := fun d os => cell_regrown m1' d os
                have hm := List.mem_of_getElem? hu
                have hus2 := rtotal_mem hm
                have y1 : (0 : Int) ≤ (k : Int) := by omega
                have y2 : (k : Int) < (ts.length : Int) := by omega
                have y3 : (k : Int) < (us.length : Int) := by omega
                have hs2 := hs.bel (HB.out ▸ hbl)
                have hs2' := hs'.bel (HB.out ▸ hbl)
                have hr2 := hr.bel (HB.out ▸ hbl)
                have hr2' := hr'.bel (HB.out ▸ hbl)
                have HU : Hid (ts[k]? = some u) := hu
                have HV : Hid (us[k]? = some v) := hv
                obtain ⟨rr, hrr⟩ : ∃ r, u.same v = r := ⟨_, rfl⟩
                have HR2 : Hid (u.same v = rr) := hrr
                have CC : Hid (∀ d os, Calls Try.prog 18 #[rwv u.kind s u.ty.base u.idx r, rwv v.kind s' v.ty.base v.idx r'] (grow (redrawn wr d) os) fun e w'' => e = .returned (.bool rr) ∧ ∃ p : Regrown, w'' = grow (redrawn wr p.d) p.os) := fun d os =>
                  Calls.regrown_of (by rw [← hrr]; exact HIH.out u hm v ok ok' s r s' r' _ (hs2.bel (below_regrown wr d os)) (hr2.bel (below_regrown wr d os)) (hs2'.bel (below_regrown wr d os)) (hr2'.bel (below_regrown wr d os)) (by have := HTOT.out; omega))
                clear a0 a1 a2 a3 a4 d0 d1 d2 d3 d4 hu hv hrr hs hs' hr hr' hs2 hs2' hr2 hr2'
                go_wp2_with fail
                refine wp_region_quiet_below (by kernel_rfl) (by kernel_rfl) ?_
                repeat (go_big_quiet_step ((go_at_call 18; exact CC.out _ _)))
                refine wpQuiet_nil ?_
                intro w2 hw'
                obtain ⟨p, hw''⟩ := hw'
                have hb2 : Below wr.heap.size wr w2 := by rw [hw'']; exact below_regrown _ _ _
                clear hw'' p q0 q1 q2 q3 q4 p0 p1 p2 p3 p4 m0 m1
                have hB2 : Below B w w2 := hbl.trans (hb2.mono (by have := hbl.size; rw [HB.out] at this; omega))
                cases rr
                · go_wp2
                  go_ret
                  exact ⟨ret_bool (by rw [HR3.out]; exact (sameR_no _ _ _ _ _ HU.out HV.out HR2.out).symm), hB2⟩
                · go_wp2
                  go_roundw
                  case rel => exact ⟨k + 1, by omega, by go_num, HF.out.step HU.out HV.out HR2.out, k0.below hb2 k0.lt, k1.below hb2 k1.lt, hB2⟩
                  case measure => simp [intOf]; omega
              · obtain rfl : k = ts.length := by omega
                go_wp2
                go_ret
                exact ⟨ret_bool (by rw [HR3.out]; exact (sameR_of_up _ _ HLE.out fun i x y hx hy => HF.out i x y (List.getElem?_eq_some_iff.1 hx).1 hx hy).symm), hbl⟩
          · have y8 : decide (0 ≤ ka) = false := by simp; omega
            clear h90 h91 h92 e9 h3
            go_enter Try.func18, Try.ntmps18
            go_upto_region 1 with fail
            rw [HW.out]
            clear HW
            replace c4 := b0.cell 4
            go_wp2_with fail
            clear c4
            go_loopw [5] (fun i wr => ∃ k : Nat, k ≤ ts.length ∧ i = .int .i64 k ∧ Hid (SameUpR ts us k) ∧ Blk wr B 27 #[.int .i64 ka, .slice x1 bn x2, .int .i64 t.ty.base, .int .i64 ia, .slice a ts.length cap] ∧ Blk wr (B + 1) 27 #[.int .i64 ka, .slice x3 bn' x4, .int .i64 t'.ty.base, .int .i64 ib, .slice a' us.length cap'] ∧ Below B w wr) (fun i _ => ts.length - (intOf i).toNat)
            case atStart => exact ⟨0, Nat.zero_le _, rfl, fun _ _ _ h => by omega, b0, b1, bl0⟩
            case round =>
              clear b0 b1 bl0
              try clear c0 c1 c2 c3 e0 e1 e2 e3 e4
              obtain ⟨k, hk, rfl, HF, k0, k1, hbl⟩ := hrel
              have m0' := k0.cell 4
              have m1' := k1.cell 4
              by_cases hlt : k < ts.length
              · obtain ⟨u, hu⟩ : ∃ u, ts[k]? = some u := ⟨_, List.getElem?_eq_getElem hlt⟩
                have hlt' : k < us.length := by have := HLE.out; omega
                obtain ⟨v, hv⟩ : ∃ v, us[k]? = some v := ⟨_, List.getElem?_eq_getElem hlt'⟩
                obtain ⟨g, o, s, r, rfl, _, hg, a0, a1, a2, a3, a4, hs, hr⟩ := HA.out k u hu
                obtain ⟨g', o', s', r', rfl, _, hg', d0, d1, d2, d3, d4, hs', hr'⟩ := HA'.out k v hv
                rw [HB.out] at hg hg'
                have q0 := fun d os => cell_regrown ((cat hbl hg).trans a0) d os
                have q1 := fun d os => cell_regrown ((cat hbl hg).trans a1) d os
                have q2 := fun d os => cell_regrown ((cat hbl hg).trans a2) d os
                have q3 := fun d os => cell_regrown ((cat hbl hg).trans a3) d os
                have q4 := fun d os => cell_regrown ((cat hbl hg).trans a4) d os
                have p0 := fun d os => cell_regrown ((cat hbl hg').trans d0) d os
                have p1 := fun d os => cell_regrown ((cat hbl hg').trans d1) d os
                have p2 := fun d os => cell_regrown ((cat hbl hg').trans d2) d os
                have p3 := fun d os => cell_regrown ((cat hbl hg').trans d3) d os
                have p4 := fun d os => cell_regrown ((cat hbl hg').trans d4) d os
                have m0 := fun d os => cell_regrown m0' d os
                have m1 := fun d os => cell_regrown m1' d os
                have hm := List.mem_of_getElem? hu
                have hus2 := rtotal_mem hm
                have y1 : (0 : Int) ≤ (k : Int) := by omega
                have y2 : (k : Int) < (ts.length : Int) := by omega
                have y3 : (k : Int) < (us.length : Int) := by omega
                have hs2 := hs.bel (HB.out ▸ hbl)
                have hs2' := hs'.bel (HB.out ▸ hbl)
                have hr2 := hr.bel (HB.out ▸ hbl)
                have hr2' := hr'.bel (HB.out ▸ hbl)
                have HU : Hid (ts[k]? = some u) := hu
                have HV : Hid (us[k]? = some v) := hv
                obtain ⟨rr, hrr⟩ : ∃ r, u.same v = r := ⟨_, rfl⟩
                have HR2 : Hid (u.same v = rr) := hrr
                have CC : Hid (∀ d os, Calls Try.prog 18 #[rwv u.kind s u.ty.base u.idx r, rwv v.kind s' v.ty.base v.idx r'] (grow (redrawn wr d) os) fun e w'' => e = .returned (.bool rr) ∧ ∃ p : Regrown, w'' = grow (redrawn wr p.d) p.os) := fun d os =>
                  Calls.regrown_of (by rw [← hrr]; exact HIH.out u hm v ok ok' s r s' r' _ (hs2.bel (below_regrown wr d os)) (hr2.bel (below_regrown wr d os)) (hs2'.bel (below_regrown wr d os)) (hr2'.bel (below_regrown wr d os)) (by have := HTOT.out; omega))
                clear a0 a1 a2 a3 a4 d0 d1 d2 d3 d4 hu hv hrr hs hs' hr hr' hs2 hs2' hr2 hr2'
                go_wp2_with fail
                refine wp_region_quiet_below (by kernel_rfl) (by kernel_rfl) ?_
                repeat (go_big_quiet_step ((go_at_call 18; exact CC.out _ _)))
                refine wpQuiet_nil ?_
                intro w2 hw'
                obtain ⟨p, hw''⟩ := hw'
                have hb2 : Below wr.heap.size wr w2 := by rw [hw'']; exact below_regrown _ _ _
                clear hw'' p q0 q1 q2 q3 q4 p0 p1 p2 p3 p4 m0 m1
                have hB2 : Below B w w2 := hbl.trans (hb2.mono (by have := hbl.size; rw [HB.out] at this; omega))
                cases rr
                · go_wp2
                  go_ret
                  exact ⟨ret_bool (by rw [HR3.out]; exact (sameR_no _ _ _ _ _ HU.out HV.out HR2.out).symm), hB2⟩
                · go_wp2
                  go_roundw
                  case rel => exact ⟨k + 1, by omega, by go_num, HF.out.step HU.out HV.out HR2.out, k0.below hb2 k0.lt, k1.below hb2 k1.lt, hB2⟩
                  case measure => simp [intOf]; omega
              · obtain rfl : k = ts.length := by omega
                go_wp2
                go_ret
                exact ⟨ret_bool (by rw [HR3.out]; exact (sameR_of_up _ _ HLE.out fun i x y hx hy => HF.out i x y (List.getElem?_eq_some_iff.1 hx).1 hx hy).symm), hbl⟩
    · have z2 : ((ts.length : Int) != (us.length : Int)) = true := by simp; omega
      have HR : Hid (rs = false) := by show _ = _; rw [HL.out, sameR_len _ _ hle]; simp
      clear HL hty hle
      go_enter Try.func18, Try.ntmps18
      go_upto_region 1 with fail
      rw [HW.out]
      clear HW
      go_wp2
      go_ret
      exact ⟨ret_bool HR.out.symm, bl0⟩
  · have z1 : (ka != kb) = true := by simp [hk]
    have HR : Hid (rs = false) := by show _ = _; rw [HL.out]; simp [hk]
    clear HL hty hk
    go_enter Try.func18, Try.ntmps18
    go_upto_region 1 with fail
    rw [HW.out]
    clear HW
    go_wp2
    go_ret
    exact ⟨ret_bool HR.out.symm, bl0⟩

end Go.Proofs.Ytckagmagjogmnaa
