/-
  The contracts of the document's types and Same of terms.
-/
import Derived.Test.YtheokboggjnenaaHoldT
import Derived.Test.YtheokboggjnenaaSame
namespace Go.Proofs.Ytheokboggjnenaa
open Go Go.RowKit Go.Sort

set_option maxRecDepth 100000 in
set_option maxHeartbeats 1600000 in
theorem types_calls (ts us : List Ty) (ok ok' : Nat → Prop) (sl sl' : Value) (w : World) (hh : Holds w ok ts sl) (hh' : Holds w ok' us sl') (hsz : sizeL ts ≤ 1000000) :
    Calls Try.prog 63 #[sl, sl'] w fun e w' => e = .returned (.bool (sameL ts us)) ∧ Below w.heap.size w w' := by
  obtain ⟨a, cap, rfl, hcap, hat⟩ := hh.shape
  have HA : Hid _ := hat
  obtain ⟨a', cap', rfl, hcap', hat'⟩ := hh'.shape
  have HA' : Hid _ := hat'
  clear hat hh hat' hh'
  have hln := sizeL_length ts
  obtain ⟨B, hB⟩ : ∃ B, w.heap.size = B := ⟨_, rfl⟩
  by_cases hle : ts.length = us.length
  · have z2 : ((ts.length : Int) != (us.length : Int)) = false := by simp [hle]
    have HLE : Hid (ts.length = us.length) := hle
    obtain ⟨rs, hrs⟩ : ∃ rs, sameL ts us = rs := ⟨_, rfl⟩
    have HR : Hid (rs = sameL ts us) := hrs.symm
    rw [hrs]
    clear hle hrs
    go_enter Try.func63, Try.ntmps63
    go_wp2
    go_loopw [5] (fun i wr => ∃ k : Nat, k ≤ ts.length ∧ i = .int .i64 k ∧ Hid (SameUp ts us k) ∧ Below B w wr) (fun i _ => ts.length - (intOf i).toNat)
    case atStart => exact ⟨0, Nat.zero_le _, rfl, fun _ _ _ h => by omega, Below.refl _ _⟩
    case round =>
      obtain ⟨k, hk, rfl, HF, hbl⟩ := hrel
      by_cases hlt : k < ts.length
      · obtain ⟨u, hu⟩ : ∃ u, ts[k]? = some u := ⟨_, List.getElem?_eq_getElem hlt⟩
        have hlt' : k < us.length := by have := HLE.out; omega
        obtain ⟨v, hv⟩ : ∃ v, us[k]? = some v := ⟨_, List.getElem?_eq_getElem hlt'⟩
        obtain ⟨g, o, s, rfl, _, hg, a0, a1, hs⟩ := HA.out k u hu
        obtain ⟨g', o', s', rfl, _, hg', c0, c1, hs'⟩ := HA'.out k v hv
        have q0 := fun d os => cell_regrown ((cat hbl (by omega)).trans a0) d os
        have q1 := fun d os => cell_regrown ((cat hbl (by omega)).trans a1) d os
        have p0 := fun d os => cell_regrown ((cat hbl (by omega)).trans c0) d os
        have p1 := fun d os => cell_regrown ((cat hbl (by omega)).trans c1) d os
        have hm := List.mem_of_getElem? hu
        have hus2 := size_mem hm
        have y1 : (0 : Int) ≤ (k : Int) := by omega
        have y2 : (k : Int) < (ts.length : Int) := by omega
        have y3 : (k : Int) < (us.length : Int) := by omega
        have hs2 : Holds wr ok u.args s := hs.bel (hB ▸ hbl)
        have hs2' : Holds wr ok' v.args s' := hs'.bel (hB ▸ hbl)
        have HU : Hid (ts[k]? = some u) := hu
        have HV : Hid (us[k]? = some v) := hv
        clear a0 a1 c0 c1 hu hv
        obtain ⟨r, hr⟩ : ∃ r, u.same v = r := ⟨_, rfl⟩
        have HR2 : Hid (u.same v = r) := hr
        have CC : Hid (∀ d os, Calls Try.prog 38 #[tv s u.base, tv s' v.base] (grow (redrawn wr d) os) fun e w'' => e = .returned (.bool r) ∧ ∃ p : Regrown, w'' = grow (redrawn wr p.d) p.os) := fun d os =>
          Calls.regrown_of (by rw [← hr]; exact Same_calls u v ok ok' s s' _ (hs2.bel (below_regrown wr d os)) (hs2'.bel (below_regrown wr d os)) (by omega))
        clear hr
        go_wp2_with fail
        refine wp_region_quiet_below (by kernel_rfl) (by kernel_rfl) ?_
        repeat (go_big_quiet_step ((go_at_call 38; exact CC.out _ _)))
        refine wpQuiet_nil ?_
        intro w1 hw'
        obtain ⟨p, hw''⟩ := hw'
        have hb1 : Below wr.heap.size wr w1 := by rw [hw'']; exact below_regrown _ _ _
        clear hw'' p q0 q1 p0 p1
        have hB1 : Below B w w1 := hbl.trans (hb1.mono (by have := hbl.size; omega))
        cases r
        · go_wp2
          go_ret
          exact ⟨ret_bool (by rw [HR.out]; exact (sameL_no _ _ _ _ _ HU.out HV.out HR2.out).symm), hB ▸ hB1⟩
        · go_wp2
          go_roundw
          case rel => exact ⟨k + 1, by omega, by go_num, HF.out.step HU.out HV.out HR2.out, hB1⟩
          case measure => simp [intOf]; omega
      · obtain rfl : k = ts.length := by omega
        go_wp2
        go_ret
        exact ⟨ret_bool (by rw [HR.out]; exact (sameL_of_up _ _ HLE.out fun i x y hx hy => HF.out i x y (List.getElem?_eq_some_iff.1 hx).1 hx hy).symm), hB ▸ hbl⟩
  · have z2 : ((ts.length : Int) != (us.length : Int)) = true := by simp; omega
    have HR : Hid (sameL ts us = false) := sameL_len _ _ hle
    clear hle
    go_enter Try.func63, Try.ntmps63
    go_wp2
    go_ret
    exact ⟨ret_bool HR.out.symm, Below.refl _ _⟩

def SameUpT (ts us : List Tm) (k : Nat) : Prop := ∀ i t u, i < k → ts[i]? = some t → us[i]? = some u → t.same u = true
theorem SameUpT.step {ts us : List Tm} {k : Nat} {t u : Tm} (h : SameUpT ts us k) (ht : ts[k]? = some t) (hu : us[k]? = some u) (hp : t.same u = true) : SameUpT ts us (k + 1) := by
  intro i a b hi ha hb
  rcases Nat.lt_or_ge i k with hl | hl
  · exact h i a b hl ha hb
  · obtain rfl : i = k := by omega
    rw [ht] at ha; rw [hu] at hb; cases ha; cases hb; exact hp
theorem sameT_of_up (ts us : List Tm) (hl : ts.length = us.length) (h : ∀ (i : Nat) (t u : Tm), ts[i]? = some t → us[i]? = some u → t.same u = true) : sameT ts us = true := by
  induction ts generalizing us with
  | nil => cases us with
    | nil => rfl
    | cons u us => simp at hl
  | cons t ts ih => cases us with
    | nil => simp at hl
    | cons u us =>
      have h0 := h 0 t u (by simp) (by simp)
      have := ih us (by simpa using hl) (fun i a b ha hb => h (i + 1) a b (by simpa using ha) (by simpa using hb))
      simp [sameT, h0, this]
theorem sameT_no (ts us : List Tm) (i : Nat) (t u : Tm) (ht : ts[i]? = some t) (hu : us[i]? = some u) (h : t.same u = false) : sameT ts us = false := by
  induction ts generalizing us i with
  | nil => simp at ht
  | cons a ts ih => cases us with
    | nil => simp at hu
    | cons b us =>
      cases i with
      | zero => simp at ht hu; subst ht; subst hu; simp [sameT, h]
      | succ i => have := ih us i (by simpa using ht) (by simpa using hu); simp [sameT, this]
theorem sameT_len (ts us : List Tm) (h : ts.length ≠ us.length) : sameT ts us = false := by
  cases hs : sameT ts us with
  | false => rfl
  | true => rw [sameT_iff'] at hs; exact absurd (by rw [hs]) h

set_option maxRecDepth 100000 in
set_option maxHeartbeats 1600000 in
theorem SameTm_calls (t : Tm) : ∀ (t' : Tm) (ok ok' : Nat → Prop) (sb sl sb' sl' : Value) (w : World), Holds w ok t.binds sb → HoldsT w ok t.args sl → Holds w ok' t'.binds sb' → HoldsT w ok' t'.args sl' → t.total ≤ 1000000 →
    Calls Try.prog 25 #[tmv sb t.kind t.idx sl, tmv sb' t'.kind t'.idx sl'] w fun e w' => e = .returned (.bool (t.same t')) ∧ Below w.heap.size w w' := by
  induction t using Tm.ind with
  | h t ih =>
  intro t' ok ok' sb sl sb' sl' w hb ha hb' ha' hsz
  obtain ⟨bs, hbs⟩ : ∃ bs, t.binds = bs := ⟨_, rfl⟩
  obtain ⟨ts, hts⟩ : ∃ ts, t.args = ts := ⟨_, rfl⟩
  obtain ⟨bs', hbs'⟩ : ∃ bs, t'.binds = bs := ⟨_, rfl⟩
  obtain ⟨us, hus⟩ : ∃ us, t'.args = us := ⟨_, rfl⟩
  have hse := t.same_eq t'
  have htot := t.total_eq
  rw [hbs, hts] at htot
  rw [hbs, hts, hbs', hus] at hse
  rw [hbs] at hb
  rw [hts] at ha ih
  rw [hbs'] at hb'
  rw [hus] at ha'
  have HL : Hid _ := hse
  have hln := totalT_length ts
  obtain ⟨B, hB⟩ : ∃ B, w.heap.size = B := ⟨_, rfl⟩
  obtain ⟨x1, x2, rfl, _⟩ := hb.shape
  obtain ⟨x3, x4, rfl, _⟩ := hb'.shape
  obtain ⟨a, cap, rfl, hcap, hat⟩ := ha.shape
  have HA : Hid _ := hat
  obtain ⟨a', cap', rfl, hcap', hat'⟩ := ha'.shape
  have HA' : Hid _ := hat'
  clear hat hat' hse
  generalize bs.length = bn at *
  generalize bs'.length = bn' at *
  obtain ⟨w0, hw0⟩ : ∃ w0, (w.alloc (.cells #[.slice x1 bn x2, .int .i64 t.kind, .int .i64 t.idx, .slice a ts.length cap] 27)).alloc (.cells #[.slice x3 bn' x4, .int .i64 t'.kind, .int .i64 t'.idx, .slice a' us.length cap'] 27) = w0 := ⟨_, rfl⟩
  have b0 : Blk w0 B 27 #[.slice x1 bn x2, .int .i64 t.kind, .int .i64 t.idx, .slice a ts.length cap] := by rw [← hw0]; exact (Blk.new' w B 27 _ hB).alloc _
  have b1 : Blk w0 (B + 1) 27 #[.slice x3 bn' x4, .int .i64 t'.kind, .int .i64 t'.idx, .slice a' us.length cap'] := by rw [← hw0]; exact Blk.new' _ (B + 1) 27 _ (by simp [hB])
  have bl0 : Below B w w0 := by rw [← hw0]; exact ((Below.refl B w).alloc (by omega) _).alloc (by simp; omega) _
  rw [hB]
  have c0 := b0.cell 0
  have c1 := b0.cell 1
  have c2 := b0.cell 2
  have c3 := b0.cell 3
  have e0 := b1.cell 0
  have e1 := b1.cell 1
  have e2 := b1.cell 2
  have e3 := b1.cell 3
  obtain ⟨rs, hrs⟩ : ∃ rs, t.same t' = rs := ⟨_, rfl⟩
  rw [hrs] at HL ⊢
  generalize t.kind = ka at *
  generalize t'.kind = kb at *
  generalize t.idx = ia at *
  generalize t'.idx = ib at *
  clear hrs hbs hbs' hts hus
  by_cases hk : ka = kb
  · subst hk
    by_cases hi : ia = ib
    · subst hi
      by_cases hle : ts.length = us.length
      · have z2 : ((ts.length : Int) != (us.length : Int)) = false := by simp [hle]
        have HLE : Hid (ts.length = us.length) := hle
        have HR : Hid (rs = (sameL bs bs' && sameT ts us)) := by show _ = _; rw [HL.out]; simp
        clear HL hle
        have hty := types_calls bs bs' ok ok' _ _ w0 (by rw [← hw0]; exact (hb.alloc _).alloc _) (by rw [← hw0]; exact (hb'.alloc _).alloc _) (by omega)
        obtain ⟨r1, hr1⟩ : ∃ r, sameL bs bs' = r := ⟨_, rfl⟩
        rw [hr1] at hty HR
        clear hr1
        go_enter Try.func25, Try.ntmps25
        go_wp2_with fail
        refine hty.mono ?_
        clear hw0
        rintro e w1 ⟨rfl, hb1⟩
        have k0 := b0.below hb1 b0.lt
        have k1 := b1.below hb1 b1.lt
        have B1 : Below B w w1 := bl0.trans (hb1.mono (by have := bl0.size; omega))
        clear hty hb1 b0 b1 bl0 c0 c1 c2 c3 e0 e1 e2 e3 hb hb' ha ha'
        cases r1 with
        | false =>
          go_wp2
          go_ret
          exact ⟨ret_bool (by rw [HR.out]; rfl), B1⟩
        | true =>
          have HR3 : Hid (rs = sameT ts us) := by show _ = _; rw [HR.out]; simp
          clear HR
          have r0 := k0.cell 3
          go_wp2_with fail
          clear r0
          go_loopw [5] (fun i wr => ∃ k : Nat, k ≤ ts.length ∧ i = .int .i64 k ∧ Hid (SameUpT ts us k) ∧ Blk wr B 27 #[.slice x1 bn x2, .int .i64 ka, .int .i64 ia, .slice a ts.length cap] ∧ Blk wr (B + 1) 27 #[.slice x3 bn' x4, .int .i64 ka, .int .i64 ia, .slice a' us.length cap'] ∧ Below B w wr) (fun i _ => ts.length - (intOf i).toNat)
          case atStart => exact ⟨0, Nat.zero_le _, rfl, fun _ _ _ h => by omega, k0, k1, B1⟩
          case round =>
            clear k0 k1 B1
            obtain ⟨k, hk, rfl, HF, k0, k1, hbl⟩ := hrel
            have m0' := k0.cell 3
            have m1' := k1.cell 3
            by_cases hlt : k < ts.length
            · obtain ⟨u, hu⟩ : ∃ u, ts[k]? = some u := ⟨_, List.getElem?_eq_getElem hlt⟩
              have hlt' : k < us.length := by have := HLE.out; omega
              obtain ⟨v, hv⟩ : ∃ v, us[k]? = some v := ⟨_, List.getElem?_eq_getElem hlt'⟩
              obtain ⟨g, o, s, r, rfl, _, hg, a0, a1, a2, a3, hs, hr⟩ := HA.out k u hu
              obtain ⟨g', o', s', r', rfl, _, hg', d0, d1, d2, d3, hs', hr'⟩ := HA'.out k v hv
              have q0 := fun d os => cell_regrown ((cat hbl (by omega)).trans a0) d os
              have q1 := fun d os => cell_regrown ((cat hbl (by omega)).trans a1) d os
              have q2 := fun d os => cell_regrown ((cat hbl (by omega)).trans a2) d os
              have q3 := fun d os => cell_regrown ((cat hbl (by omega)).trans a3) d os
              have p0 := fun d os => cell_regrown ((cat hbl (by omega)).trans d0) d os
              have p1 := fun d os => cell_regrown ((cat hbl (by omega)).trans d1) d os
              have p2 := fun d os => cell_regrown ((cat hbl (by omega)).trans d2) d os
              have p3 := fun d os => cell_regrown ((cat hbl (by omega)).trans d3) d os
              have m0 := fun d os => cell_regrown m0' d os
              have m1 := fun d os => cell_regrown m1' d os
              have hm := List.mem_of_getElem? hu
              have hus2 := total_mem hm
              have y1 : (0 : Int) ≤ (k : Int) := by omega
              have y2 : (k : Int) < (ts.length : Int) := by omega
              have y3 : (k : Int) < (us.length : Int) := by omega
              have hs2 := hs.bel (hB ▸ hbl)
              have hs2' := hs'.bel (hB ▸ hbl)
              have hr2 := hr.bel (hB ▸ hbl)
              have hr2' := hr'.bel (hB ▸ hbl)
              have HU : Hid (ts[k]? = some u) := hu
              have HV : Hid (us[k]? = some v) := hv
              obtain ⟨rr, hrr⟩ : ∃ r, u.same v = r := ⟨_, rfl⟩
              have HR2 : Hid (u.same v = rr) := hrr
              have CC : Hid (∀ d os, Calls Try.prog 25 #[tmv s u.kind u.idx r, tmv s' v.kind v.idx r'] (grow (redrawn wr d) os) fun e w'' => e = .returned (.bool rr) ∧ ∃ p : Regrown, w'' = grow (redrawn wr p.d) p.os) := fun d os =>
                Calls.regrown_of (by rw [← hrr]; exact ih u hm v ok ok' s r s' r' _ (hs2.bel (below_regrown wr d os)) (hr2.bel (below_regrown wr d os)) (hs2'.bel (below_regrown wr d os)) (hr2'.bel (below_regrown wr d os)) (by omega))
              clear a0 a1 a2 a3 d0 d1 d2 d3 hu hv hrr hs hs' hr hr' hs2 hs2' hr2 hr2'
              go_wp2_with fail
              refine wp_region_quiet_below (by kernel_rfl) (by kernel_rfl) ?_
              repeat (go_big_quiet_step ((go_at_call 25; exact CC.out _ _)))
              refine wpQuiet_nil ?_
              intro w2 hw'
              obtain ⟨p, hw''⟩ := hw'
              have hb2 : Below wr.heap.size wr w2 := by rw [hw'']; exact below_regrown _ _ _
              clear hw'' p q0 q1 q2 q3 p0 p1 p2 p3 m0 m1
              have hB2 : Below B w w2 := hbl.trans (hb2.mono (by have := hbl.size; omega))
              cases rr
              · go_wp2
                go_ret
                exact ⟨ret_bool (by rw [HR3.out]; exact (sameT_no _ _ _ _ _ HU.out HV.out HR2.out).symm), hB2⟩
              · go_wp2
                go_roundw
                case rel => exact ⟨k + 1, by omega, by go_num, HF.out.step HU.out HV.out HR2.out, k0.below hb2 k0.lt, k1.below hb2 k1.lt, hB2⟩
                case measure => simp [intOf]; omega
            · obtain rfl : k = ts.length := by omega
              go_wp2
              go_ret
              exact ⟨ret_bool (by rw [HR3.out]; exact (sameT_of_up _ _ HLE.out fun i x y hx hy => HF.out i x y (List.getElem?_eq_some_iff.1 hx).1 hx hy).symm), hbl⟩
      · have z2 : ((ts.length : Int) != (us.length : Int)) = true := by simp; omega
        have HR : Hid (rs = false) := by show _ = _; rw [HL.out, sameT_len _ _ hle]; simp
        clear HL hle
        go_enter Try.func25, Try.ntmps25
        go_wp2
        go_ret
        exact ⟨ret_bool HR.out.symm, bl0⟩
    · have HR : Hid (rs = false) := by show _ = _; rw [HL.out]; simp [hi]
      clear HL
      go_enter Try.func25, Try.ntmps25
      go_wp2
      go_ret
      exact ⟨ret_bool HR.out.symm, bl0⟩
  · have HR : Hid (rs = false) := by show _ = _; rw [HL.out]; simp [hk]
    clear HL
    go_enter Try.func25, Try.ntmps25
    go_wp2
    go_ret
    exact ⟨ret_bool HR.out.symm, bl0⟩

end Go.Proofs.Ytheokboggjnenaa
