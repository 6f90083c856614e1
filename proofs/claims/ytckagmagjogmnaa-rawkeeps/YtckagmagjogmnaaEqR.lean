/-
  The contracts of slices.EqualFunc and raw.Equal of raw terms, and of the document's Same.
-/
import Derived.Test.YtckagmagjogmnaaRightR
import Derived.Test.YtckagmagjogmnaaEqK
namespace Go.Proofs.Ytckagmagjogmnaa
open Go Go.RowKit Go.Sort

/-- Equal's own word of one raw term -/
def EqualRAt (t : Rw) : Prop := ∀ (t' : Rw) (ok : Nat → Prop) (sb sl sb' sl' : Value) (w : World), Holds w ok t.ty.args sb → HoldsR w ok t.kids sl → Holds w ok t'.ty.args sb' → HoldsR w ok t'.kids sl' →
    Calls Try.prog 17 #[rwv t.kind sb t.ty.base t.idx sl, rwv t'.kind sb' t'.ty.base t'.idx sl'] w fun e w' => e = .returned (.bool (t.same t')) ∧ Below w.heap.size w w'

set_option maxRecDepth 100000 in
set_option maxHeartbeats 1600000 in
theorem EqualFuncR_calls (ts us : List Rw) (ok : Nat → Prop) (sl sl' : Value) (w : World) (hh : HoldsR w ok ts sl) (hh' : HoldsR w ok us sl') (hsz : ts.length ≤ 1000000) (IH : ∀ t ∈ ts, EqualRAt t) :
    Calls Try.prog 47 #[sl, sl', .func (.func 17) #[] #[]] w fun e w' => e = .returned (.bool (sameR ts us)) ∧ Below w.heap.size w w' := by
  have HI : Hid _ := IH
  clear IH
  obtain ⟨a, cap, rfl, hcap, hat⟩ := hh.shape
  have HA : Hid _ := hat
  obtain ⟨a', cap', rfl, hcap', hat'⟩ := hh'.shape
  have HA' : Hid _ := hat'
  clear hat hat' hh hh'
  obtain ⟨B, hB⟩ : ∃ B, w.heap.size = B := ⟨_, rfl⟩
  by_cases hle : ts.length = us.length
  · have z2 : ((ts.length : Int) != (us.length : Int)) = false := by simp [hle]
    have HLE : Hid (ts.length = us.length) := hle
    clear hle
    go_enter Try.func47, Try.ntmps47
    go_wp2
    go_loopw [17] (fun i wr => ∃ k : Nat, k ≤ ts.length ∧ i = .int .i64 k ∧ Hid (SameUpR ts us k) ∧ Below B w wr)
      (fun i _ => ts.length - (intOf i).toNat)
    case atStart => exact ⟨0, Nat.zero_le _, rfl, fun _ _ _ h => by omega, Below.refl _ _⟩
    case round =>
      obtain ⟨k, hk, rfl, HF, hbl⟩ := hrel
      by_cases hlt : k < ts.length
      · obtain ⟨u, hu⟩ : ∃ u, ts[k]? = some u := ⟨_, List.getElem?_eq_getElem hlt⟩
        have hlt' : k < us.length := by have := HLE.out; omega
        obtain ⟨v, hv9⟩ : ∃ v, us[k]? = some v := ⟨_, List.getElem?_eq_getElem hlt'⟩
        obtain ⟨g, o, s, r0, rfl, _, hg, a0, a1, a2, a3, a4, hs, hsr⟩ := HA.out k u hu
        obtain ⟨g', o', s', r0', rfl, _, hg', e0, e1, e2, e3, e4, hs', hsr'⟩ := HA'.out k v hv9
        rw [hB] at hg hg'
        obtain ⟨sa, sc, rfl, _⟩ := hs.shape
        obtain ⟨sd, se, rfl, _⟩ := hsr.shape
        obtain ⟨sa', sc', rfl, _⟩ := hs'.shape
        obtain ⟨sd', se', rfl, _⟩ := hsr'.shape
        generalize u.ty.args.length = n1 at *
        generalize u.kids.length = n2 at *
        generalize v.ty.args.length = n3 at *
        generalize v.kids.length = n4 at *
        have q0 := (cat hbl hg).trans a0
        have q1 := (cat hbl hg).trans a1
        have q2 := (cat hbl hg).trans a2
        have q3 := (cat hbl hg).trans a3
        have q4 := (cat hbl hg).trans a4
        have hbx := hbl.alloc (by have := hbl.size; omega) (.cells #[.int .i64 u.kind, .slice sa n1 sc, .int .i64 u.ty.base, .int .i64 u.idx, .slice sd n2 se] 35)
        have p0 := (cat hbx hg').trans e0
        have p1 := (cat hbx hg').trans e1
        have p2 := (cat hbx hg').trans e2
        have p3 := (cat hbx hg').trans e3
        have p4 := (cat hbx hg').trans e4
        have hm := List.mem_of_getElem? hu
        have y1 : (0 : Int) ≤ (k : Int) := by omega
        have y2 : (k : Int) < (ts.length : Int) := by omega
        have y3 : (k : Int) < (us.length : Int) := by omega
        have hs2 := hs.bel (hB ▸ hbl)
        have hsr2 := hsr.bel (hB ▸ hbl)
        have hs2' := hs'.bel (hB ▸ hbl)
        have hsr2' := hsr'.bel (hB ▸ hbl)
        have HU : Hid (ts[k]? = some u) := hu
        have HV : Hid (us[k]? = some v) := hv9
        obtain ⟨r, hr⟩ : ∃ r, u.same v = r := ⟨_, rfl⟩
        have HR2 : Hid (u.same v = r) := hr
        have hcall := HI.out u hm v ok _ _ _ _ ((wr.alloc (.cells #[.int .i64 u.kind, .slice sa n1 sc, .int .i64 u.ty.base, .int .i64 u.idx, .slice sd n2 se] 35)).alloc (.cells #[.int .i64 v.kind, .slice sa' n3 sc', .int .i64 v.ty.base, .int .i64 v.idx, .slice sd' n4 se'] 35)) ((hs2.alloc _).alloc _) ((hsr2.alloc _).alloc _) ((hs2'.alloc _).alloc _) ((hsr2'.alloc _).alloc _)
        have hby := hbx.alloc (by have := hbx.size; omega) (.cells #[.int .i64 v.kind, .slice sa' n3 sc', .int .i64 v.ty.base, .int .i64 v.idx, .slice sd' n4 se'] 35)
        have hsy : B ≤ ((wr.alloc (.cells #[.int .i64 u.kind, .slice sa n1 sc, .int .i64 u.ty.base, .int .i64 u.idx, .slice sd n2 se] 35)).alloc (.cells #[.int .i64 v.kind, .slice sa' n3 sc', .int .i64 v.ty.base, .int .i64 v.idx, .slice sd' n4 se'] 35)).heap.size := by have := hby.size; omega
        rw [hr] at hcall
        clear a0 a1 a2 a3 a4 e0 e1 e2 e3 e4 hu hv9 hr hbx hs2 hsr2 hs2' hsr2' hs hsr hs' hsr'
        cases r
        · go_wp2_with (go_at_call 17; refine hcall.mono ?_; rintro e w1 ⟨rfl, hb1⟩)
          go_ret
          exact ⟨ret_bool (sameR_no _ _ _ _ _ HU.out HV.out HR2.out).symm, hB ▸ hby.trans (hb1.mono hsy)⟩
        · go_wp2_with (go_at_call 17; refine hcall.mono ?_; rintro e w1 ⟨rfl, hb1⟩)
          go_roundw
          case rel => exact ⟨k + 1, by omega, by go_num, HF.out.step HU.out HV.out HR2.out, hby.trans (hb1.mono hsy)⟩
          case measure => simp [intOf]; omega
      · obtain rfl : k = ts.length := by omega
        go_wp2
        go_ret
        exact ⟨ret_bool (sameR_of_up _ _ HLE.out fun i x y hx hy => HF.out i x y (List.getElem?_eq_some_iff.1 hx).1 hx hy).symm, hB ▸ hbl⟩
  · have z2 : ((ts.length : Int) != (us.length : Int)) = true := by simp; omega
    have HR : Hid (sameR ts us = false) := sameR_len _ _ hle
    clear hle
    go_enter Try.func47, Try.ntmps47
    go_wp2
    go_ret
    exact ⟨ret_bool HR.out.symm, Below.refl _ _⟩

set_option maxRecDepth 100000 in
set_option maxHeartbeats 3200000 in
theorem EqualR_calls (t : Rw) : t.total ≤ 1000000 → EqualRAt t := by
  induction t using Rw.ind with
  | h t ih =>
  intro hsz t' ok sb sl sb' sl' w hb hh hb' hh'
  have hs2 := t.total_eq
  have hl := totalR_length t.kids
  have hIH : Hid (∀ u ∈ t.kids, EqualRAt u) := fun u hu => ih u hu (by have := rtotal_mem hu; omega)
  have hKE : EqualAt t.ty := Equal_calls t.ty (by omega)
  have hse := t.same_eq t'
  have HS : Hid _ := hse
  have hlen : t.kids.length ≤ 1000000 := by omega
  clear ih hse hs2 hl
  obtain ⟨x1, x2, hx, _⟩ := hb.shape
  obtain ⟨a, cap, hsl, _⟩ := hh.shape
  obtain ⟨x3, x4, hx', _⟩ := hb'.shape
  obtain ⟨a', cap', hsl', _⟩ := hh'.shape
  generalize t.ty.args.length = bn at hx
  generalize t.kids.length = tn at hsl
  generalize t'.ty.args.length = bn' at hx'
  generalize t'.kids.length = tn' at hsl'
  subst hx hx' hsl hsl'
  obtain ⟨B, hB⟩ : ∃ B, w.heap.size = B := ⟨_, rfl⟩
  rw [hB]
  obtain ⟨ka, hka⟩ : ∃ ka, t.kind = ka := ⟨_, rfl⟩
  obtain ⟨kb, hkb⟩ : ∃ kb, t'.kind = kb := ⟨_, rfl⟩
  obtain ⟨ia, hia⟩ : ∃ ia, t.idx = ia := ⟨_, rfl⟩
  obtain ⟨ib, hib⟩ : ∃ ib, t'.idx = ib := ⟨_, rfl⟩
  rw [hka, hkb, hia, hib] at HS ⊢
  obtain ⟨W0, hW0⟩ : ∃ W0, (w.alloc (.cells #[.int .i64 ka, .slice x1 bn x2, .int .i64 t.ty.base, .int .i64 ia, .slice a tn cap] 35)).alloc (.cells #[.int .i64 kb, .slice x3 bn' x4, .int .i64 t'.ty.base, .int .i64 ib, .slice a' tn' cap'] 35) = W0 := ⟨_, rfl⟩
  have b0 : Blk W0 B 35 #[.int .i64 ka, .slice x1 bn x2, .int .i64 t.ty.base, .int .i64 ia, .slice a tn cap] := by rw [← hW0]; exact (Blk.new' w B 35 _ hB).alloc _
  have b1 : Blk W0 (B + 1) 35 #[.int .i64 kb, .slice x3 bn' x4, .int .i64 t'.ty.base, .int .i64 ib, .slice a' tn' cap'] := by rw [← hW0]; exact Blk.new' _ (B + 1) 35 _ (by simp [hB])
  have bl0 : Below B w W0 := by rw [← hW0]; exact ((Below.refl B w).alloc (by omega) _).alloc (by simp; omega) _
  have hb0 := hb.bel (hB ▸ bl0)
  have hh0 := hh.bel (hB ▸ bl0)
  have hb0' := hb'.bel (hB ▸ bl0)
  have hh0' := hh'.bel (hB ▸ bl0)
  have hc1 := hKE t'.ty ok _ _ W0 hb0 hb0'
  obtain ⟨rs, hrs⟩ : ∃ rs, t.same t' = rs := ⟨_, rfl⟩
  obtain ⟨r1, hr1⟩ : ∃ r, t.ty.same t'.ty = r := ⟨_, rfl⟩
  obtain ⟨r2, hr2⟩ : ∃ r, sameR t.kids t'.kids = r := ⟨_, rfl⟩
  have hc2 : ∀ cur, HoldsR cur ok t.kids (.slice a tn cap) → HoldsR cur ok t'.kids (.slice a' tn' cap') → Calls Try.prog 47 #[.slice a tn cap, .slice a' tn' cap', .func (.func 17) #[] #[]] cur fun e w' => e = .returned (.bool r2) ∧ Below cur.heap.size cur w' := fun cur h1 h2 => by
    rw [← hr2]; exact EqualFuncR_calls t.kids t'.kids ok _ _ cur h1 h2 hlen hIH.out
  have HC2 : Hid _ := hc2
  rw [hr1] at hc1
  rw [hrs, hr1, hr2] at HS
  rw [hrs]
  have HW : Hid _ := hW0
  clear hrs hr1 hr2 hc2 hW0 hb hb' hh hh' hb0 hb0' hka hkb hia hib hIH hKE
  by_cases hk : ka = kb
  · subst hk
    by_cases h3 : ka = 3
    · subst h3
      have HR : Hid (rs = (r1 && r2)) := by show _ = _; rw [HS.out]; cases r1 <;> cases r2 <;> rfl
      clear HS
      go_enter Try.func17, Try.ntmps17
      go_upto_region 1 with fail
      rw [HW.out]
      clear HW
      have c0 := b0.cell 0
      have c1 := b0.cell 1
      have c2 := b0.cell 2
      have c3 := b0.cell 3
      have c4 := b0.cell 4
      have d0 := b1.cell 0
      have d1 := b1.cell 1
      have d2 := b1.cell 2
      have d3 := b1.cell 3
      have d4 := b1.cell 4
      go_wp2_with fail
      refine hc1.mono ?_
      rintro e w1 ⟨rfl, hbw⟩
      replace b0 := b0.below hbw b0.lt
      replace b1 := b1.below hbw b1.lt
      replace hh0 := hh0.bel hbw
      replace hh0' := hh0'.bel hbw
      replace bl0 : Below B w w1 := bl0.trans (hbw.mono (by have := bl0.size; omega))
      clear hbw c0 c1 c2 c3 c4 d0 d1 d2 d3 d4
      clear hc1
      cases r1 with
      | false =>
        go_wp2
        go_ret
        exact ⟨ret_bool (by rw [HR.out]; rfl), bl0⟩
      | true =>
        have hc3 := isHead_calls 3 t.ty.base ia x1 bn x2 a tn cap w1
        rw [show isHd 3 = false from rfl] at hc3
        have c0 := b0.cell 0
        have c1 := b0.cell 1
        have c2 := b0.cell 2
        have c3 := b0.cell 3
        have c4 := b0.cell 4
        have d0 := b1.cell 0
        have d1 := b1.cell 1
        have d2 := b1.cell 2
        have d3 := b1.cell 3
        have d4 := b1.cell 4
        go_wp2_with fail
        refine hc3.mono ?_
        rintro e w2 ⟨rfl, hbw⟩
        replace b0 := b0.below hbw b0.lt
        replace b1 := b1.below hbw b1.lt
        replace hh0 := hh0.bel hbw
        replace hh0' := hh0'.bel hbw
        replace bl0 : Below B w w2 := bl0.trans (hbw.mono (by have := bl0.size; omega))
        clear hbw c0 c1 c2 c3 c4 d0 d1 d2 d3 d4
        clear hc3
        have hc4 := HC2.out w2 hh0 hh0'
        have c0 := b0.cell 0
        have c1 := b0.cell 1
        have c2 := b0.cell 2
        have c3 := b0.cell 3
        have c4 := b0.cell 4
        have d0 := b1.cell 0
        have d1 := b1.cell 1
        have d2 := b1.cell 2
        have d3 := b1.cell 3
        have d4 := b1.cell 4
        go_wp2_with fail
        refine hc4.mono ?_
        rintro e w9 ⟨rfl, hbw⟩
        have bl9 : Below B w w9 := bl0.trans (hbw.mono (by have := bl0.size; omega))
        clear hc4
        go_wp2
        go_ret
        exact ⟨ret_bool (by rw [HR.out]; simp), bl9⟩
    · have z3 : (ka != 3) = true := by simp [h3]
      obtain ⟨ih, hih⟩ : ∃ h, isHd ka = h := ⟨_, rfl⟩
      have hc3 := isHead_calls ka t.ty.base ia x1 bn x2 a tn cap W0
      rw [hih] at hc3 HS
      have zk3 : (ka == 3) = false := beq_eq_false_iff_ne.2 h3
      have HR : Hid (rs = ((!ih || ia == ib) && r2)) := by show _ = _; rw [HS.out, zk3]; simp
      clear HS hc1 h3 hih
      go_enter Try.func17, Try.ntmps17
      go_upto_region 1 with fail
      rw [HW.out]
      clear HW
      have c0 := b0.cell 0
      have c1 := b0.cell 1
      have c2 := b0.cell 2
      have c3 := b0.cell 3
      have c4 := b0.cell 4
      have d0 := b1.cell 0
      have d1 := b1.cell 1
      have d2 := b1.cell 2
      have d3 := b1.cell 3
      have d4 := b1.cell 4
      go_wp2_with fail
      refine hc3.mono ?_
      rintro e w1 ⟨rfl, hbw⟩
      replace b0 := b0.below hbw b0.lt
      replace b1 := b1.below hbw b1.lt
      replace hh0 := hh0.bel hbw
      replace hh0' := hh0'.bel hbw
      replace bl0 : Below B w w1 := bl0.trans (hbw.mono (by have := bl0.size; omega))
      clear hbw c0 c1 c2 c3 c4 d0 d1 d2 d3 d4
      clear hc3
      cases ih with
      | false =>
        have hc4 := HC2.out w1 hh0 hh0'
        have c0 := b0.cell 0
        have c1 := b0.cell 1
        have c2 := b0.cell 2
        have c3 := b0.cell 3
        have c4 := b0.cell 4
        have d0 := b1.cell 0
        have d1 := b1.cell 1
        have d2 := b1.cell 2
        have d3 := b1.cell 3
        have d4 := b1.cell 4
        go_wp2_with fail
        refine hc4.mono ?_
        rintro e w9 ⟨rfl, hbw⟩
        have bl9 : Below B w w9 := bl0.trans (hbw.mono (by have := bl0.size; omega))
        clear hc4
        go_wp2
        go_ret
        exact ⟨ret_bool (by rw [HR.out]; simp), bl9⟩
      | true =>
        by_cases hi : ia = ib
        · subst hi
          have hc4 := HC2.out w1 hh0 hh0'
          have c0 := b0.cell 0
          have c1 := b0.cell 1
          have c2 := b0.cell 2
          have c3 := b0.cell 3
          have c4 := b0.cell 4
          have d0 := b1.cell 0
          have d1 := b1.cell 1
          have d2 := b1.cell 2
          have d3 := b1.cell 3
          have d4 := b1.cell 4
          go_wp2_with fail
          refine hc4.mono ?_
          rintro e w9 ⟨rfl, hbw⟩
          have bl9 : Below B w w9 := bl0.trans (hbw.mono (by have := bl0.size; omega))
          clear hc4
          go_wp2
          go_ret
          exact ⟨ret_bool (by rw [HR.out]; simp), bl9⟩
        · have zi : (ia == ib) = false := by simp [hi]
          have c0 := b0.cell 0
          have c1 := b0.cell 1
          have c2 := b0.cell 2
          have c3 := b0.cell 3
          have c4 := b0.cell 4
          have d0 := b1.cell 0
          have d1 := b1.cell 1
          have d2 := b1.cell 2
          have d3 := b1.cell 3
          have d4 := b1.cell 4
          go_wp2
          go_ret
          exact ⟨ret_bool (by rw [HR.out, zi]; rfl), bl0⟩
  · have zk : (ka == kb) = false := by simp [hk]
    have HR : Hid (rs = false) := by show _ = _; rw [HS.out, zk]; rfl
    clear HS hc1
    go_enter Try.func17, Try.ntmps17
    go_upto_region 1 with fail
    rw [HW.out]
    clear HW
    have c0 := b0.cell 0
    have c1 := b0.cell 1
    have c2 := b0.cell 2
    have c3 := b0.cell 3
    have c4 := b0.cell 4
    have d0 := b1.cell 0
    have d1 := b1.cell 1
    have d2 := b1.cell 2
    have d3 := b1.cell 3
    have d4 := b1.cell 4
    go_wp2
    go_ret
    exact ⟨ret_bool HR.out.symm, bl0⟩

end Go.Proofs.Ytckagmagjogmnaa
