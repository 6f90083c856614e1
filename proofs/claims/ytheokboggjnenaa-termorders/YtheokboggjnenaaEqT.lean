/-
  The contracts of slices.EqualFunc of terms and of term.Equal.
-/
import Derived.Test.YtheokboggjnenaaEqK
import Derived.Test.YtheokboggjnenaaSameT
import Derived.Deep.DeepCutAuto
namespace Go.Proofs.Ytheokboggjnenaa
open Go Go.RowKit Go.Sort

/-- Equal's own word of one term -/
def EqualTAt (t : Tm) : Prop := ∀ (t' : Tm) (ok : Nat → Prop) (sb sl sb' sl' : Value) (w : World), Holds w ok t.binds sb → HoldsT w ok t.args sl → Holds w ok t'.binds sb' → HoldsT w ok t'.args sl' →
    Calls Try.prog 28 #[tmv sb t.kind t.idx sl, tmv sb' t'.kind t'.idx sl'] w fun e w' => e = .returned (.bool (t.same t')) ∧ Below w.heap.size w w'

set_option maxRecDepth 100000 in
set_option maxHeartbeats 1600000 in
theorem EqualFuncT_calls (ts us : List Tm) (ok : Nat → Prop) (sl sl' : Value) (w : World) (hh : HoldsT w ok ts sl) (hh' : HoldsT w ok us sl') (hsz : ts.length ≤ 1000000) (IH : ∀ t ∈ ts, EqualTAt t) :
    Calls Try.prog 69 #[sl, sl', .func (.func 28) #[] #[]] w fun e w' => e = .returned (.bool (sameT ts us)) ∧ Below w.heap.size w w' := by
  have HI : Hid _ := IH
  clear IH
  obtain ⟨a, cap, rfl, hcap, hat⟩ := hh.shape
  have HA : Hid _ := hat
  obtain ⟨a', cap', rfl, hcap', hat'⟩ := hh'.shape
  have HA' : Hid _ := hat'
  clear hat hat' hh hh'
  obtain ⟨B, hB⟩ : ∃ B, w.heap.size = B := ⟨_, rfl⟩
  by_cases hle : ts.length = us.length
  · have z2 : ((ts.length : Int) != (us.length : Int)) = false := by simp [hle]
    have HLE : Hid (ts.length = us.length) := hle
    clear hle
    go_enter Try.func69, Try.ntmps69
    go_wp2
    go_loopw [17] (fun i wr => ∃ k : Nat, k ≤ ts.length ∧ i = .int .i64 k ∧ Hid (SameUpT ts us k) ∧ Below B w wr)
      (fun i _ => ts.length - (intOf i).toNat)
    case atStart => exact ⟨0, Nat.zero_le _, rfl, fun _ _ _ h => by omega, Below.refl _ _⟩
    case round =>
      obtain ⟨k, hk, rfl, HF, hbl⟩ := hrel
      by_cases hlt : k < ts.length
      · obtain ⟨u, hu⟩ : ∃ u, ts[k]? = some u := ⟨_, List.getElem?_eq_getElem hlt⟩
        have hlt' : k < us.length := by have := HLE.out; omega
        obtain ⟨v, hv9⟩ : ∃ v, us[k]? = some v := ⟨_, List.getElem?_eq_getElem hlt'⟩
        obtain ⟨g, o, s, r0, rfl, _, hg, a0, a1, a2, a3, hs, hsr⟩ := HA.out k u hu
        obtain ⟨g', o', s', r0', rfl, _, hg', e0, e1, e2, e3, hs', hsr'⟩ := HA'.out k v hv9
        rw [hB] at hg hg'
        obtain ⟨sa, sc, rfl, _⟩ := hs.shape
        obtain ⟨sd, se, rfl, _⟩ := hsr.shape
        obtain ⟨sa', sc', rfl, _⟩ := hs'.shape
        obtain ⟨sd', se', rfl, _⟩ := hsr'.shape
        generalize u.binds.length = n1 at *
        generalize u.args.length = n2 at *
        generalize v.binds.length = n3 at *
        generalize v.args.length = n4 at *
        have q0 := (cat hbl hg).trans a0
        have q1 := (cat hbl hg).trans a1
        have q2 := (cat hbl hg).trans a2
        have q3 := (cat hbl hg).trans a3
        have hbx := hbl.alloc (by have := hbl.size; omega) (.cells #[.slice sa n1 sc, .int .i64 u.kind, .int .i64 u.idx, .slice sd n2 se] 34)
        have p0 := (cat hbx hg').trans e0
        have p1 := (cat hbx hg').trans e1
        have p2 := (cat hbx hg').trans e2
        have p3 := (cat hbx hg').trans e3
        have hm := List.mem_of_getElem? hu
        have y1 : (0 : Int) ≤ (k : Int) := by omega
        have y2 : (k : Int) < (ts.length : Int) := by omega
        have y3 : (k : Int) < (us.length : Int) := by omega
        have hs2 := hs.bel (hB ▸ hbl)
        have hsr2 := hsr.bel (hB ▸ hbl)
        have hs2' := hs'.bel (hB ▸ hbl)
        have hsr2' := hsr'.bel (hB ▸ hbl)
        have HU : Hid (ts[k]? = some u) := hu
        have HV : Hid (us[k]? = some v) := hv9
        obtain ⟨r, hr⟩ : ∃ r, u.same v = r := ⟨_, rfl⟩
        have HR2 : Hid (u.same v = r) := hr
        have hcall := HI.out u hm v ok _ _ _ _ ((wr.alloc (.cells #[.slice sa n1 sc, .int .i64 u.kind, .int .i64 u.idx, .slice sd n2 se] 34)).alloc (.cells #[.slice sa' n3 sc', .int .i64 v.kind, .int .i64 v.idx, .slice sd' n4 se'] 34)) ((hs2.alloc _).alloc _) ((hsr2.alloc _).alloc _) ((hs2'.alloc _).alloc _) ((hsr2'.alloc _).alloc _)
        have hby := hbx.alloc (by have := hbx.size; omega) (.cells #[.slice sa' n3 sc', .int .i64 v.kind, .int .i64 v.idx, .slice sd' n4 se'] 34)
        have hsy : B ≤ ((wr.alloc (.cells #[.slice sa n1 sc, .int .i64 u.kind, .int .i64 u.idx, .slice sd n2 se] 34)).alloc (.cells #[.slice sa' n3 sc', .int .i64 v.kind, .int .i64 v.idx, .slice sd' n4 se'] 34)).heap.size := by have := hby.size; omega
        rw [hr] at hcall
        clear a0 a1 a2 a3 e0 e1 e2 e3 hu hv9 hr hbx hs2 hsr2 hs2' hsr2' hs hsr hs' hsr'
        cases r
        · go_wp2_with (go_at_call 28; refine hcall.mono ?_; rintro e w1 ⟨rfl, hb1⟩)
          go_ret
          exact ⟨ret_bool (sameT_no _ _ _ _ _ HU.out HV.out HR2.out).symm, hB ▸ hby.trans (hb1.mono hsy)⟩
        · go_wp2_with (go_at_call 28; refine hcall.mono ?_; rintro e w1 ⟨rfl, hb1⟩)
          go_roundw
          case rel => exact ⟨k + 1, by omega, by go_num, HF.out.step HU.out HV.out HR2.out, hby.trans (hb1.mono hsy)⟩
          case measure => simp [intOf]; omega
      · obtain rfl : k = ts.length := by omega
        go_wp2
        go_ret
        exact ⟨ret_bool (sameT_of_up _ _ HLE.out fun i x y hx hy => HF.out i x y (List.getElem?_eq_some_iff.1 hx).1 hx hy).symm, hB ▸ hbl⟩
  · have z2 : ((ts.length : Int) != (us.length : Int)) = true := by simp; omega
    have HR : Hid (sameT ts us = false) := sameT_len _ _ hle
    clear hle
    go_enter Try.func69, Try.ntmps69
    go_wp2
    go_ret
    exact ⟨ret_bool HR.out.symm, Below.refl _ _⟩

set_option maxRecDepth 100000 in
set_option maxHeartbeats 1600000 in
theorem EqualT_calls (t : Tm) : t.total ≤ 1000000 → EqualTAt t := by
  induction t using Tm.ind with
  | h t ih =>
  intro hsz t' ok sb sl sb' sl' w hb hh hb' hh'
  have hs2 := t.total_eq
  have hl := totalT_length t.args
  have hlb := sizeL_length t.binds
  have hIH : Hid (∀ u ∈ t.args, EqualTAt u) := fun u hu => ih u hu (by have := total_mem hu; omega)
  have hKE : Hid (∀ u ∈ t.binds, EqualAt u) := fun u hu => Equal_calls u (by have := size_mem hu; omega)
  have hse := t.same_eq t'
  have HS : Hid _ := hse
  have hlen : t.args.length ≤ 1000000 := by omega
  have hlen2 : t.binds.length ≤ 1000000 := by omega
  clear ih hse hs2 hl hlb
  obtain ⟨x1, x2, hx, _⟩ := hb.shape
  obtain ⟨a, cap, hsl, _⟩ := hh.shape
  obtain ⟨x3, x4, hx', _⟩ := hb'.shape
  obtain ⟨a', cap', hsl', _⟩ := hh'.shape
  generalize t.binds.length = bn at hx
  generalize t.args.length = tn at hsl
  generalize t'.binds.length = bn' at hx'
  generalize t'.args.length = tn' at hsl'
  subst hx hx' hsl hsl'
  obtain ⟨B, hB⟩ : ∃ B, w.heap.size = B := ⟨_, rfl⟩
  rw [hB]
  obtain ⟨W0, hW0⟩ : ∃ W0, (w.alloc (.cells #[.slice x1 bn x2, .int .i64 t.kind, .int .i64 t.idx, .slice a tn cap] 34)).alloc (.cells #[.slice x3 bn' x4, .int .i64 t'.kind, .int .i64 t'.idx, .slice a' tn' cap'] 34) = W0 := ⟨_, rfl⟩
  have b0 : Blk W0 B 34 #[.slice x1 bn x2, .int .i64 t.kind, .int .i64 t.idx, .slice a tn cap] := by rw [← hW0]; exact (Blk.new' w B 34 _ hB).alloc _
  have b1 : Blk W0 (B + 1) 34 #[.slice x3 bn' x4, .int .i64 t'.kind, .int .i64 t'.idx, .slice a' tn' cap'] := by rw [← hW0]; exact Blk.new' _ (B + 1) 34 _ (by simp [hB])
  have bl0 : Below B w W0 := by rw [← hW0]; exact ((Below.refl B w).alloc (by omega) _).alloc (by simp; omega) _
  have hb0 := hb.bel (hB ▸ bl0)
  have hh0 := hh.bel (hB ▸ bl0)
  have hb0' := hb'.bel (hB ▸ bl0)
  have hh0' := hh'.bel (hB ▸ bl0)
  have hz0 : B ≤ W0.heap.size := by have := bl0.size; omega
  have hc1 := EqualFunc_calls t.binds t'.binds ok _ _ W0 hb0 hb0' hlen2 hKE.out
  obtain ⟨rs, hrs⟩ : ∃ rs, t.same t' = rs := ⟨_, rfl⟩
  obtain ⟨r1, hr1⟩ : ∃ r, sameL t.binds t'.binds = r := ⟨_, rfl⟩
  obtain ⟨r2, hr2⟩ : ∃ r, sameT t.args t'.args = r := ⟨_, rfl⟩
  rw [hr1] at hc1
  rw [hrs, hr1, hr2] at HS
  rw [hrs]
  have HW : Hid _ := hW0
  have c0 := b0.cell 0
  have c1 := b0.cell 1
  have c2 := b0.cell 2
  have d0 := b1.cell 0
  have d1 := b1.cell 1
  have d2 := b1.cell 2
  clear hrs hr1 hW0 hb hb' hh hh' hb0 hb0'
  generalize hka : t.kind = ka at *
  generalize hkb : t'.kind = kb at *
  generalize hia : t.idx = ia at *
  generalize hib : t'.idx = ib at *
  clear hka hkb hia hib
  by_cases hk : ka = kb
  · subst hk
    by_cases hi : ia = ib
    · subst hi
      have HR : Hid (rs = (r1 && r2)) := by show _ = _; rw [HS.out]; simp
      clear HS
      go_enter Try.func28, Try.ntmps28
      go_upto_region 1 with fail
      rw [HW.out]
      clear HW
      go_wp2_with fail
      refine hc1.mono ?_
      rintro e w1 ⟨rfl, hb1⟩
      have B1 : Below B w w1 := bl0.trans (hb1.mono hz0)
      have k0 := b0.below hb1 b0.lt
      have k1 := b1.below hb1 b1.lt
      have c3 := k0.cell 3
      have d3 := k1.cell 3
      have hc2 := EqualFuncT_calls t.args t'.args ok _ _ w1 (hh0.bel hb1) (hh0'.bel hb1) hlen hIH.out
      rw [hr2] at hc2
      clear c0 c1 c2 d0 d1 d2 hc1 b0 b1 bl0 hh0 hh0'
      cases r1 with
      | false =>
        go_wp2
        go_ret
        exact ⟨ret_bool (by rw [HR.out]; rfl), B1⟩
      | true =>
        go_wp2_with fail
        refine hc2.mono ?_
        rintro e w2 ⟨rfl, hb2⟩
        have B2 : Below B w w2 := B1.trans (hb2.mono (by have := B1.size; omega))
        go_wp2
        go_ret
        exact ⟨ret_bool (by rw [HR.out]; simp), B2⟩
    · have HR : Hid (rs = false) := by show _ = _; rw [HS.out]; simp [hi]
      clear HS
      go_enter Try.func28, Try.ntmps28
      go_upto_region 1 with fail
      rw [HW.out]
      clear HW
      go_wp2
      go_ret
      exact ⟨ret_bool HR.out.symm, bl0⟩
  · have HR : Hid (rs = false) := by show _ = _; rw [HS.out]; simp [hk]
    clear HS
    go_enter Try.func28, Try.ntmps28
    go_upto_region 1 with fail
    rw [HW.out]
    clear HW
    go_wp2
    go_ret
    exact ⟨ret_bool HR.out.symm, bl0⟩

end Go.Proofs.Ytheokboggjnenaa
