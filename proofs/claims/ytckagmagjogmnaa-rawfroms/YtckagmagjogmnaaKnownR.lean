/-
  KnownR: several texts in one file: EqR, KnownR.
-/
import Derived.Test.YtckagmagjogmnaaRightR
import Derived.Test.YtckagmagjogmnaaEqK
import Derived.Test.YtckagmagjogmnaaInfE
import Derived.Test.YtckagmagjogmnaaMake
import Derived.Test.YtckagmagjogmnaaCallR
import Derived.Test.YtckagmagjogmnaaStepF
import Derived.Test.YtckagmagjogmnaaBoxes
namespace Go.Proofs.Ytckagmagjogmnaa
open Go Go.RowKit Go.Sort

/-- Equal's own word of one raw term -/
def EqualRAt (t : Rw) : Prop := ∀ (t' : Rw) (ok : Nat → Prop) (sb sl sb' sl' : Value) (w : World), Holds w ok t.ty.args sb → HoldsR w ok t.kids sl → Holds w ok t'.ty.args sb' → HoldsR w ok t'.kids sl' →
    Calls Try.prog 17 #[rwv t.kind sb t.ty.base t.idx sl, rwv t'.kind sb' t'.ty.base t'.idx sl'] w fun e w' => e = .returned (.bool (t.same t')) ∧ Below w.heap.size w w'

set_option maxRecDepth 100000 in
set_option maxHeartbeats 1600000 in
theorem EqualFuncR_calls (ts us : List Rw) (ok : Nat → Prop) (sl sl' : Value) (w : World) (hh : HoldsR w ok ts sl) (hh' : HoldsR w ok us sl') (hsz : ts.length ≤ 1000000) (IH : ∀ t ∈ ts, EqualRAt t) :
    Calls Try.prog 47 #[sl, sl', .func (.func 17) #[] #[]] w fun e w' => e = .returned (.bool (sameR ts us)) ∧ Below w.heap.size w w' := by
  have HI : Hid _ := IH
  clear IH
  obtain ⟨a, cap, rfl, hcap, hat⟩ := hh.shape
  have HA : Hid _ := hat
  obtain ⟨a', cap', rfl, hcap', hat'⟩ := hh'.shape
  have HA' : Hid _ := hat'
  clear hat hat' hh hh'
  obtain ⟨B, hB⟩ : ∃ B, w.heap.size = B := ⟨_, rfl⟩
  by_cases hle : ts.length = us.length
  · have z2 : ((ts.length : Int) != (us.length : Int)) = false := by simp [hle]
    have HLE : Hid (ts.length = us.length) := hle
    clear hle
    go_enter Try.func47, Try.ntmps47
    go_wp2
    go_loopw [17] (fun i wr => ∃ k : Nat, k ≤ ts.length ∧ i = .int .i64 k ∧ Hid (SameUpR ts us k) ∧ Below B w wr)
      (fun i _ => ts.length - (intOf i).toNat)
    case atStart => exact ⟨0, Nat.zero_le _, rfl, fun _ _ _ h => by omega, Below.refl _ _⟩
    case round =>
      obtain ⟨k, hk, rfl, HF, hbl⟩ := hrel
      by_cases hlt : k < ts.length
      · obtain ⟨u, hu⟩ : ∃ u, ts[k]? = some u := ⟨_, List.getElem?_eq_getElem hlt⟩
        have hlt' : k < us.length := by have := HLE.out; omega
        obtain ⟨v, hv9⟩ : ∃ v, us[k]? = some v := ⟨_, List.getElem?_eq_getElem hlt'⟩
        obtain ⟨g, o, s, r0, rfl, _, hg, a0, a1, a2, a3, a4, hs, hsr⟩ := HA.out k u hu
        obtain ⟨g', o', s', r0', rfl, _, hg', e0, e1, e2, e3, e4, hs', hsr'⟩ := HA'.out k v hv9
        rw [hB] at hg hg'
        obtain ⟨sa, sc, rfl, _⟩ := hs.shape
        obtain ⟨sd, se, rfl, _⟩ := hsr.shape
        obtain ⟨sa', sc', rfl, _⟩ := hs'.shape
        obtain ⟨sd', se', rfl, _⟩ := hsr'.shape
        generalize u.ty.args.length = n1 at *
        generalize u.kids.length = n2 at *
        generalize v.ty.args.length = n3 at *
        generalize v.kids.length = n4 at *
        have q0 := (cat hbl hg).trans a0
        have q1 := (cat hbl hg).trans a1
        have q2 := (cat hbl hg).trans a2
        have q3 := (cat hbl hg).trans a3
        have q4 := (cat hbl hg).trans a4
        have hbx := hbl.alloc (by have := hbl.size; omega) (.cells #[.int .i64 u.kind, .slice sa n1 sc, .int .i64 u.ty.base, .int .i64 u.idx, .slice sd n2 se] 35)
        have p0 := (cat hbx hg').trans e0
        have p1 := (cat hbx hg').trans e1
        have p2 := (cat hbx hg').trans e2
        have p3 := (cat hbx hg').trans e3
        have p4 := (cat hbx hg').trans e4
        have hm := List.mem_of_getElem? hu
        have y1 : (0 : Int) ≤ (k : Int) := by omega
        have y2 : (k : Int) < (ts.length : Int) := by omega
        have y3 : (k : Int) < (us.length : Int) := by omega
        have hs2 := hs.bel (hB ▸ hbl)
        have hsr2 := hsr.bel (hB ▸ hbl)
        have hs2' := hs'.bel (hB ▸ hbl)
        have hsr2' := hsr'.bel (hB ▸ hbl)
        have HU : Hid (ts[k]? = some u) := hu
        have HV : Hid (us[k]? = some v) := hv9
        obtain ⟨r, hr⟩ : ∃ r, u.same v = r := ⟨_, rfl⟩
        have HR2 : Hid (u.same v = r) := hr
        have hcall := HI.out u hm v ok _ _ _ _ ((wr.alloc (.cells #[.int .i64 u.kind, .slice sa n1 sc, .int .i64 u.ty.base, .int .i64 u.idx, .slice sd n2 se] 35)).alloc (.cells #[.int .i64 v.kind, .slice sa' n3 sc', .int .i64 v.ty.base, .int .i64 v.idx, .slice sd' n4 se'] 35)) ((hs2.alloc _).alloc _) ((hsr2.alloc _).alloc _) ((hs2'.alloc _).alloc _) ((hsr2'.alloc _).alloc _)
        have hby := hbx.alloc (by have := hbx.size; omega) (.cells #[.int .i64 v.kind, .slice sa' n3 sc', .int .i64 v.ty.base, .int .i64 v.idx, .slice sd' n4 se'] 35)
        have hsy : B ≤ ((wr.alloc (.cells #[.int .i64 u.kind, .slice sa n1 sc, .int .i64 u.ty.base, .int .i64 u.idx, .slice sd n2 se] 35)).alloc (.cells #[.int .i64 v.kind, .slice sa' n3 sc', .int .i64 v.ty.base, .int .i64 v.idx, .slice sd' n4 se'] 35)).heap.size := by have := hby.size; omega
        rw [hr] at hcall
        clear a0 a1 a2 a3 a4 e0 e1 e2 e3 e4 hu hv9 hr hbx hs2 hsr2 hs2' hsr2' hs hsr hs' hsr'
        cases r
        · go_wp2_with (go_at_call 17; refine hcall.mono ?_; rintro e w1 ⟨rfl, hb1⟩)
          go_ret
          exact ⟨ret_bool (sameR_no _ _ _ _ _ HU.out HV.out HR2.out).symm, hB ▸ hby.trans (hb1.mono hsy)⟩
        · go_wp2_with (go_at_call 17; refine hcall.mono ?_; rintro e w1 ⟨rfl, hb1⟩)
          go_roundw
          case rel => exact ⟨k + 1, by omega, by go_num, HF.out.step HU.out HV.out HR2.out, hby.trans (hb1.mono hsy)⟩
          case measure => simp [intOf]; omega
      · obtain rfl : k = ts.length := by omega
        go_wp2
        go_ret
        exact ⟨ret_bool (sameR_of_up _ _ HLE.out fun i x y hx hy => HF.out i x y (List.getElem?_eq_some_iff.1 hx).1 hx hy).symm, hB ▸ hbl⟩
  · have z2 : ((ts.length : Int) != (us.length : Int)) = true := by simp; omega
    have HR : Hid (sameR ts us = false) := sameR_len _ _ hle
    clear hle
    go_enter Try.func47, Try.ntmps47
    go_wp2
    go_ret
    exact ⟨ret_bool HR.out.symm, Below.refl _ _⟩

set_option maxRecDepth 100000 in
set_option maxHeartbeats 3200000 in
theorem EqualR_calls (t : Rw) : t.total ≤ 1000000 → EqualRAt t := by
  induction t using Rw.ind with
  | h t ih =>
  intro hsz t' ok sb sl sb' sl' w hb hh hb' hh'
  have hs2 := t.total_eq
  have hl := totalR_length t.kids
  have hIH : Hid (∀ u ∈ t.kids, EqualRAt u) := fun u hu => ih u hu (by have := rtotal_mem hu; omega)
  have hKE : EqualAt t.ty := Equal_calls t.ty (by omega)
  have hse := t.same_eq t'
  have HS : Hid _ := hse
  have hlen : t.kids.length ≤ 1000000 := by omega
  clear ih hse hs2 hl
  obtain ⟨x1, x2, hx, _⟩ := hb.shape
  obtain ⟨a, cap, hsl, _⟩ := hh.shape
  obtain ⟨x3, x4, hx', _⟩ := hb'.shape
  obtain ⟨a', cap', hsl', _⟩ := hh'.shape
  generalize t.ty.args.length = bn at hx
  generalize t.kids.length = tn at hsl
  generalize t'.ty.args.length = bn' at hx'
  generalize t'.kids.length = tn' at hsl'
  subst hx hx' hsl hsl'
  obtain ⟨B, hB⟩ : ∃ B, w.heap.size = B := ⟨_, rfl⟩
  rw [hB]
  obtain ⟨ka, hka⟩ : ∃ ka, t.kind = ka := ⟨_, rfl⟩
  obtain ⟨kb, hkb⟩ : ∃ kb, t'.kind = kb := ⟨_, rfl⟩
  obtain ⟨ia, hia⟩ : ∃ ia, t.idx = ia := ⟨_, rfl⟩
  obtain ⟨ib, hib⟩ : ∃ ib, t'.idx = ib := ⟨_, rfl⟩
  rw [hka, hkb, hia, hib] at HS ⊢
  obtain ⟨W0, hW0⟩ : ∃ W0, (w.alloc (.cells #[.int .i64 ka, .slice x1 bn x2, .int .i64 t.ty.base, .int .i64 ia, .slice a tn cap] 35)).alloc (.cells #[.int .i64 kb, .slice x3 bn' x4, .int .i64 t'.ty.base, .int .i64 ib, .slice a' tn' cap'] 35) = W0 := ⟨_, rfl⟩
  have b0 : Blk W0 B 35 #[.int .i64 ka, .slice x1 bn x2, .int .i64 t.ty.base, .int .i64 ia, .slice a tn cap] := by rw [← hW0]; exact (Blk.new' w B 35 _ hB).alloc _
  have b1 : Blk W0 (B + 1) 35 #[.int .i64 kb, .slice x3 bn' x4, .int .i64 t'.ty.base, .int .i64 ib, .slice a' tn' cap'] := by rw [← hW0]; exact Blk.new' _ (B + 1) 35 _ (by simp [hB])
  have bl0 : Below B w W0 := by rw [← hW0]; exact ((Below.refl B w).alloc (by omega) _).alloc (by simp; omega) _
  have hb0 := hb.bel (hB ▸ bl0)
  have hh0 := hh.bel (hB ▸ bl0)
  have hb0' := hb'.bel (hB ▸ bl0)
  have hh0' := hh'.bel (hB ▸ bl0)
  have hc1 := hKE t'.ty ok _ _ W0 hb0 hb0'
  obtain ⟨rs, hrs⟩ : ∃ rs, t.same t' = rs := ⟨_, rfl⟩
  obtain ⟨r1, hr1⟩ : ∃ r, t.ty.same t'.ty = r := ⟨_, rfl⟩
  obtain ⟨r2, hr2⟩ : ∃ r, sameR t.kids t'.kids = r := ⟨_, rfl⟩
  have hc2 : ∀ cur, HoldsR cur ok t.kids (.slice a tn cap) → HoldsR cur ok t'.kids (.slice a' tn' cap') → Calls Try.prog 47 #[.slice a tn cap, .slice a' tn' cap', .func (.func 17) #[] #[]] cur fun e w' => e = .returned (.bool r2) ∧ Below cur.heap.size cur w' := fun cur h1 h2 => by
    rw [← hr2]; exact EqualFuncR_calls t.kids t'.kids ok _ _ cur h1 h2 hlen hIH.out
  have HC2 : Hid _ := hc2
  rw [hr1] at hc1
  rw [hrs, hr1, hr2] at HS
  rw [hrs]
  have HW : Hid _ := hW0
  clear hrs hr1 hr2 hc2 hW0 hb hb' hh hh' hb0 hb0' hka hkb hia hib hIH hKE
  by_cases hk : ka = kb
  · subst hk
    by_cases h3 : ka = 3
    · subst h3
      have HR : Hid (rs = (r1 && r2)) := by show _ = _; rw [HS.out]; cases r1 <;> cases r2 <;> rfl
      clear HS
      go_enter Try.func17, Try.ntmps17
      go_upto_region 1 with fail
      rw [HW.out]
      clear HW
      have c0 := b0.cell 0
      have c1 := b0.cell 1
      have c2 := b0.cell 2
      have c3 := b0.cell 3
      have c4 := b0.cell 4
      have d0 := b1.cell 0
      have d1 := b1.cell 1
      have d2 := b1.cell 2
      have d3 := b1.cell 3
      have d4 := b1.cell 4
      go_wp2_with fail
      refine hc1.mono ?_
      rintro e w1 ⟨rfl, hbw⟩
      replace b0 := b0.below hbw b0.lt
      replace b1 := b1.below hbw b1.lt
      replace hh0 := hh0.bel hbw
      replace hh0' := hh0'.bel hbw
      replace bl0 : Below B w w1 := bl0.trans (hbw.mono (by have := bl0.size; omega))
      clear hbw c0 c1 c2 c3 c4 d0 d1 d2 d3 d4
      clear hc1
      cases r1 with
      | false =>
        go_wp2
        go_ret
        exact ⟨ret_bool (by rw [HR.out]; rfl), bl0⟩
      | true =>
        have hc3 := isHead_calls 3 t.ty.base ia x1 bn x2 a tn cap w1
        rw [show isHd 3 = false from rfl] at hc3
        have c0 := b0.cell 0
        have c1 := b0.cell 1
        have c2 := b0.cell 2
        have c3 := b0.cell 3
        have c4 := b0.cell 4
        have d0 := b1.cell 0
        have d1 := b1.cell 1
        have d2 := b1.cell 2
        have d3 := b1.cell 3
        have d4 := b1.cell 4
        go_wp2_with fail
        refine hc3.mono ?_
        rintro e w2 ⟨rfl, hbw⟩
        replace b0 := b0.below hbw b0.lt
        replace b1 := b1.below hbw b1.lt
        replace hh0 := hh0.bel hbw
        replace hh0' := hh0'.bel hbw
        replace bl0 : Below B w w2 := bl0.trans (hbw.mono (by have := bl0.size; omega))
        clear hbw c0 c1 c2 c3 c4 d0 d1 d2 d3 d4
        clear hc3
        have hc4 := HC2.out w2 hh0 hh0'
        have c0 := b0.cell 0
        have c1 := b0.cell 1
        have c2 := b0.cell 2
        have c3 := b0.cell 3
        have c4 := b0.cell 4
        have d0 := b1.cell 0
        have d1 := b1.cell 1
        have d2 := b1.cell 2
        have d3 := b1.cell 3
        have d4 := b1.cell 4
        go_wp2_with fail
        refine hc4.mono ?_
        rintro e w9 ⟨rfl, hbw⟩
        have bl9 : Below B w w9 := bl0.trans (hbw.mono (by have := bl0.size; omega))
        clear hc4
        go_wp2
        go_ret
        exact ⟨ret_bool (by rw [HR.out]; simp), bl9⟩
    · have z3 : (ka != 3) = true := by simp [h3]
      obtain ⟨ih, hih⟩ : ∃ h, isHd ka = h := ⟨_, rfl⟩
      have hc3 := isHead_calls ka t.ty.base ia x1 bn x2 a tn cap W0
      rw [hih] at hc3 HS
      have zk3 : (ka == 3) = false := beq_eq_false_iff_ne.2 h3
      have HR : Hid (rs = ((!ih || ia == ib) && r2)) := by show _ = _; rw [HS.out, zk3]; simp
      clear HS hc1 h3 hih
      go_enter Try.func17, Try.ntmps17
      go_upto_region 1 with fail
      rw [HW.out]
      clear HW
      have c0 := b0.cell 0
      have c1 := b0.cell 1
      have c2 := b0.cell 2
      have c3 := b0.cell 3
      have c4 := b0.cell 4
      have d0 := b1.cell 0
      have d1 := b1.cell 1
      have d2 := b1.cell 2
      have d3 := b1.cell 3
      have d4 := b1.cell 4
      go_wp2_with fail
      refine hc3.mono ?_
      rintro e w1 ⟨rfl, hbw⟩
      replace b0 := b0.below hbw b0.lt
      replace b1 := b1.below hbw b1.lt
      replace hh0 := hh0.bel hbw
      replace hh0' := hh0'.bel hbw
      replace bl0 : Below B w w1 := bl0.trans (hbw.mono (by have := bl0.size; omega))
      clear hbw c0 c1 c2 c3 c4 d0 d1 d2 d3 d4
      clear hc3
      cases ih with
      | false =>
        have hc4 := HC2.out w1 hh0 hh0'
        have c0 := b0.cell 0
        have c1 := b0.cell 1
        have c2 := b0.cell 2
        have c3 := b0.cell 3
        have c4 := b0.cell 4
        have d0 := b1.cell 0
        have d1 := b1.cell 1
        have d2 := b1.cell 2
        have d3 := b1.cell 3
        have d4 := b1.cell 4
        go_wp2_with fail
        refine hc4.mono ?_
        rintro e w9 ⟨rfl, hbw⟩
        have bl9 : Below B w w9 := bl0.trans (hbw.mono (by have := bl0.size; omega))
        clear hc4
        go_wp2
        go_ret
        exact ⟨ret_bool (by rw [HR.out]; simp), bl9⟩
      | true =>
        by_cases hi : ia = ib
        · subst hi
          have hc4 := HC2.out w1 hh0 hh0'
          have c0 := b0.cell 0
          have c1 := b0.cell 1
          have c2 := b0.cell 2
          have c3 := b0.cell 3
          have c4 := b0.cell 4
          have d0 := b1.cell 0
          have d1 := b1.cell 1
          have d2 := b1.cell 2
          have d3 := b1.cell 3
          have d4 := b1.cell 4
          go_wp2_with fail
          refine hc4.mono ?_
          rintro e w9 ⟨rfl, hbw⟩
          have bl9 : Below B w w9 := bl0.trans (hbw.mono (by have := bl0.size; omega))
          clear hc4
          go_wp2
          go_ret
          exact ⟨ret_bool (by rw [HR.out]; simp), bl9⟩
        · have zi : (ia == ib) = false := by simp [hi]
          have c0 := b0.cell 0
          have c1 := b0.cell 1
          have c2 := b0.cell 2
          have c3 := b0.cell 3
          have c4 := b0.cell 4
          have d0 := b1.cell 0
          have d1 := b1.cell 1
          have d2 := b1.cell 2
          have d3 := b1.cell 3
          have d4 := b1.cell 4
          go_wp2
          go_ret
          exact ⟨ret_bool (by rw [HR.out, zi]; rfl), bl0⟩
  · have zk : (ka == kb) = false := by simp [hk]
    have HR : Hid (rs = false) := by show _ = _; rw [HS.out, zk]; rfl
    clear HS hc1
    go_enter Try.func17, Try.ntmps17
    go_upto_region 1 with fail
    rw [HW.out]
    clear HW
    have c0 := b0.cell 0
    have c1 := b0.cell 1
    have c2 := b0.cell 2
    have c3 := b0.cell 3
    have c4 := b0.cell 4
    have d0 := b1.cell 0
    have d1 := b1.cell 1
    have d2 := b1.cell 2
    have d3 := b1.cell 3
    have d4 := b1.cell 4
    go_wp2
    go_ret
    exact ⟨ret_bool HR.out.symm, bl0⟩

end Go.Proofs.Ytckagmagjogmnaa

namespace Go.Proofs.Ytckagmagjogmnaa
open Go Go.RowKit Go.Sort

theorem Holds.t {w : World} {ok : Nat → Prop} {ts : List Ty} {v : Value} (h : Holds w ok ts v) : Holds w okT ts v := h.mono fun _ _ _ => trivial
theorem HoldsR.t {w : World} {ok : Nat → Prop} {ts : List Rw} {v : Value} (h : HoldsR w ok ts v) : HoldsR w okT ts v := h.mono fun _ _ _ => trivial
def tyA : Ty := .mk [] 0
def exB : Rw := lamR tyA (hdR 0 0)
def exR : Rw := appR exB (hdR 1 0)
theorem Blk.bel {W W' : World} {B : Nat} {t : TypeId} {vs : Array Value} (h : Blk W B t vs) (hb : Below W.heap.size W W') : Blk W' B t vs := h.below hb h.lt
theorem Blk.both {W W' : World} {B : Nat} {t : TypeId} {vs : Array Value} (hb : Below W.heap.size W W') (h : Blk W B t vs) : B < W.heap.size ∧ Blk W' B t vs := ⟨h.lt, h.bel hb⟩
theorem Only.bel {S : List Nat} {w w' : World} (h : Only S w w') (hs : S = []) : Below w.heap.size w w' := by subst hs; exact h.below (Nat.le_refl _) (by simp)
set_option maxRecDepth 100000 in
theorem HeadX_calls (k i : Int) (w : World) : Calls Try.prog 24 #[.int .i64 k, .int .i64 i] w fun e w' => e = .returned (rwv k (.slice none 0 0) 0 i (.slice none 0 0)) ∧ Below w.heap.size w w' := by
  obtain ⟨N, hN⟩ : ∃ N, w.heap.size = N := ⟨_, rfl⟩
  have b0 := Blk.new' w N 35 #[.int .i64 0, .slice none 0 0, .int .i64 0, .int .i64 0, .slice none 0 0] hN
  have c0 := b0.cell 0
  have c1 := b0.cell 1
  have c2 := b0.cell 2
  have c3 := b0.cell 3
  have c4 := b0.cell 4
  have f0 := b0.frozen 0
  have f1 := b0.frozen 1
  have f2 := b0.frozen 2
  have f3 := b0.frozen 3
  have f4 := b0.frozen 4
  have b5 := ((((b0.set 0 (.int .i64 k)).set 1 (.slice none 0 0)).set 2 (.int .i64 0)).set 3 (.int .i64 i)).set 4 (.slice none 0 0)
  have hg9 : w.heap.size ≤ N := by omega
  have hO := ((((((Only.refl [] w).alloc (.cells #[.int .i64 0, .slice none 0 0, .int .i64 0, .int .i64 0, .slice none 0 0] 35)).setNew hg9 0 (.int .i64 k)).setNew hg9 1 (.slice none 0 0)).setNew hg9 2 (.int .i64 0)).setNew hg9 3 (.int .i64 i)).setNew hg9 4 (.slice none 0 0)
  obtain ⟨W0, hW0⟩ : ∃ W0, w.alloc (.cells #[.int .i64 0, .slice none 0 0, .int .i64 0, .int .i64 0, .slice none 0 0] 35) = W0 := ⟨_, rfl⟩
  rw [hW0] at b0 c0 c1 c2 c3 c4 f0 f1 f2 f3 f4 b5 hO
  have HW : Hid _ := hW0
  clear hW0
  go_enter Try.func24, Try.ntmps24
  go_upto_region 1 with fail
  rw [HW.out]
  clear HW
  go_wp2
  generalize (((((W0.setCell ⟨N, 0, none⟩ (.int .i64 k)).setCell ⟨N, 1, none⟩ (.slice none 0 0)).setCell ⟨N, 2, none⟩ (.int .i64 0)).setCell ⟨N, 3, none⟩ (.int .i64 i)).setCell ⟨N, 4, none⟩ (.slice none 0 0)) = W5 at *
  have g0 : W5.cell? ⟨N, 0, none⟩ = some (.int .i64 k) := b5.cell 0
  have g1 : W5.cell? ⟨N, 1, none⟩ = some (.slice none 0 0) := b5.cell 1
  have g2 : W5.cell? ⟨N, 2, none⟩ = some (.int .i64 0) := b5.cell 2
  have g3 : W5.cell? ⟨N, 3, none⟩ = some (.int .i64 i) := b5.cell 3
  have g4 : W5.cell? ⟨N, 4, none⟩ = some (.slice none 0 0) := b5.cell 4
  exact bodyPost_ret (v := rwv k (.slice none 0 0) 0 i (.slice none 0 0)) (by simp [results, Try.results24, go_sem, g0, g1, g2, g3, g4]) rfl ⟨rfl, Only.bel hO rfl⟩
theorem Bind_ex (sb sr st : Value) (w : World) (hb : Holds w okT [] sb) (hr : HoldsR w okT [] sr) (ht : Holds w okT [tyA] st) :
    Calls Try.prog 21 #[rwv 0 sb 0 0 sr, st] w fun e w' => ∃ a c a' c', e = .returned (rwv 3 (.slice a 0 c) 0 0 (.slice a' 1 c')) ∧ Holds w' (fun b => w.heap.size ≤ b) [] (.slice a 0 c) ∧ HoldsR w' (fun b => w.heap.size ≤ b) [hdR 0 0] (.slice a' 1 c') ∧ Below w.heap.size w w' :=
  (Bind_calls (hdR 0 0) [tyA] okT okT sb sr st w hb hr ht (Rw.fit_of_total _ (by decide +kernel)) (by decide +kernel)).mono fun e w' ⟨vb, vr, h1, h2, h3, h4⟩ => by
    have h2' : Holds w' (fun b => w.heap.size ≤ b) [] vb := h2
    have h3' : HoldsR w' (fun b => w.heap.size ≤ b) [hdR 0 0] vr := h3
    obtain ⟨a, c, rfl, _⟩ := h2'.shape
    obtain ⟨a', c', rfl, _⟩ := h3'.shape
    exact ⟨a, c, a', c', h1, h2', h3', h4.bel rfl⟩
theorem Call_ex (sb sr st : Value) (w : World) (hb : Holds w okT [] sb) (hr : HoldsR w okT [hdR 0 0] sr) (ht : HoldsR w okT [hdR 1 0] st) :
    Calls Try.prog 23 #[rwv 3 sb 0 0 sr, st] w fun e w' => ∃ a c a' c', e = .returned (rwv 4 (.slice a 0 c) 0 0 (.slice a' 2 c')) ∧ Holds w' (fun b => w.heap.size ≤ b) [] (.slice a 0 c) ∧ HoldsR w' (fun b => w.heap.size ≤ b) [exB, hdR 1 0] (.slice a' 2 c') ∧ Below w.heap.size w w' :=
  (Call_calls exB [hdR 1 0] okT okT sb sr st w hb hr ht (Rw.fit_of_total _ (by decide +kernel)) (fun u hu => by rw [List.mem_singleton.1 hu]; exact Rw.fit_of_total _ (by decide +kernel)) (by decide)).mono fun e w' ⟨vb, vr, h1, h2, h3, h4⟩ => by
    have h2' : Holds w' (fun b => w.heap.size ≤ b) [] vb := h2
    have h3' : HoldsR w' (fun b => w.heap.size ≤ b) [exB, hdR 1 0] vr := h3
    obtain ⟨a, c, rfl, _⟩ := h2'.shape
    obtain ⟨a', c', rfl, _⟩ := h3'.shape
    exact ⟨a, c, a', c', h1, h2', h3', h4.bel rfl⟩
theorem holdsR_raw {w : World} {ok : Nat → Prop} (k i : Int) (e : TypeId) : HoldsR (w.alloc (.cells #[.int .i64 k, .slice none 0 0, .int .i64 0, .int .i64 i, .slice none 0 0] e)) (fun m => w.heap.size ≤ m ∨ ok m) [hdR k i] (.slice (some ⟨w.heap.size, 0, none⟩) 1 1) :=
  holdsR_one (f := hdR k i) (Blk.new w e _) (.inl (Nat.le_refl _)) (Holds.nil _ _ _ _ (fun _ => rfl)) (HoldsR.nil _ _ _ _ (fun _ => rfl))
theorem holds_tyB {w : World} {ok : Nat → Prop} {a : Option Addr} {c : Nat} (h1 : a = none → c = 0) (e : TypeId) : Holds (w.alloc (.cells #[.slice a 0 c, .int .i64 0] e)) (fun m => w.heap.size ≤ m ∨ ok m) [tyA] (.slice (some ⟨w.heap.size, 0, none⟩) 1 1) := by
  have hk := Blk.new w e #[.slice a 0 c, .int .i64 0]
  refine Holds.mk [tyA] (some ⟨w.heap.size, 0, none⟩) 1 (fun _ => .slice a 0 c) (Nat.le_refl _) (fun h => by cases h) ?_ ?_
  · intro i u hi
    match i, hi with
    | 0, hi => cases hi; exact ⟨w.heap.size, 0, rfl, .inl (Nat.le_refl _), hk.cell 0, hk.cell 1⟩
    | i + 1, hi => simp at hi
  · intro i u hi
    match i, hi with
    | 0, hi => cases hi; exact Holds.nil _ _ _ _ h1
    | i + 1, hi => simp at hi
theorem holds_tyA {w : World} {n : Nat} {a : Option Addr} {c : Nat} (h1 : a = none → c = 0) (hn : w.heap.size = n) (e : TypeId) : Holds (w.alloc (.cells #[.slice a 0 c, .int .i64 0] e)) okT [tyA] (.slice (some ⟨n, 0, none⟩) 1 1) :=
  holds_one (t := tyA) (Holds.nil _ _ _ _ h1) hn e
/-- what the region makes: a box of its own, with the example in it -/
def ExBox (w : World) (s : Value) (wx : World) : Prop := ∃ G a c a' c', s = .pointer (some ⟨G, 0, none⟩) ∧ Blk wx G 35 #[.int .i64 4, .slice a 0 c, .int .i64 0, .int .i64 0, .slice a' 2 c'] ∧ Holds wx okT [] (.slice a 0 c) ∧ HoldsR wx okT [exB, hdR 1 0] (.slice a' 2 c') ∧ Below w.heap.size w wx
def actBK9 (A : Nat) (y0 y3 y4 y5 y6 y7 y15 y16 y17 y18 y19 y20 y21 y22 y23 y24 y25 y26 y27 y28 y29 y30 y31 y32 y33 y34 y35 y36 y37 y38 y39 y40 y41 y42 : Value) (u : Nat → Value) : Act :=
  { tmps := #[y0, .pointer (some ⟨A, 0, none⟩), u 2, y3, y4, y5, y6, y7, u 8, u 9, u 10, u 11, u 12, u 13, u 14, y15, y16, y17, y18, y19, y20, y21, y22, y23, y24, y25, y26, y27, y28, y29, y30, y31, y32, y33, y34, y35, y36, y37, y38, y39, y40, y41, y42], defers := [] }
set_option maxRecDepth 100000 in
theorem over_actBK9 (A : Nat) (y0 y3 y4 y5 y6 y7 y15 y16 y17 y18 y19 y20 y21 y22 y23 y24 y25 y26 y27 y28 y29 y30 y31 y32 y33 y34 y35 y36 y37 y38 y39 y40 y41 y42 : Value) (u0 u : Nat → Value) : over (fun s => Nat.beq s 2 || (Nat.ble 8 s && Nat.ble s 14)) u (actBK9 A y0 y3 y4 y5 y6 y7 y15 y16 y17 y18 y19 y20 y21 y22 y23 y24 y25 y26 y27 y28 y29 y30 y31 y32 y33 y34 y35 y36 y37 y38 y39 y40 y41 y42 u0) = actBK9 A y0 y3 y4 y5 y6 y7 y15 y16 y17 y18 y19 y20 y21 y22 y23 y24 y25 y26 y27 y28 y29 y30 y31 y32 y33 y34 y35 y36 y37 y38 y39 y40 y41 y42 u := rfl
def VBK9 (a1 : Option Addr) (c1 : Nat) (s : Nat) (w : World) (ok : Nat → Prop) (v : Value) : Prop := match s with
  | 8 => v = rwv 0 (.slice none 0 0) 0 0 (.slice none 0 0)
  | 9 => v = .agg #[.slice a1 0 c1, .int .i64 0]
  | 10 => ∃ g, v = .slice (some ⟨g, 0, none⟩) 1 1 ∧ Holds w ok [tyA] (.slice (some ⟨g, 0, none⟩) 1 1)
  | 11 => ∃ xa xc xd xe, v = rwv 3 (.slice xa 0 xc) 0 0 (.slice xd 1 xe) ∧ Holds w ok [] (.slice xa 0 xc) ∧ HoldsR w ok [hdR 0 0] (.slice xd 1 xe)
  | 12 => v = rwv 1 (.slice none 0 0) 0 0 (.slice none 0 0)
  | 13 => ∃ g, v = .slice (some ⟨g, 0, none⟩) 1 1 ∧ HoldsR w ok [hdR 1 0] (.slice (some ⟨g, 0, none⟩) 1 1)
  | 14 => ∃ va vc vd ve, v = rwv 4 (.slice va 0 vc) 0 0 (.slice vd 2 ve) ∧ Holds w ok [] (.slice va 0 vc) ∧ HoldsR w ok [exB, hdR 1 0] (.slice vd 2 ve)
  | _ => True
theorem VBK9.keep (a1 : Option Addr) (c1 : Nat) (s : Nat) (w w' : World) (ok ok' : Nat → Prop) (v : Value) (h : VBK9 a1 c1 s w ok v) (hsz : w.heap.size ≤ w'.heap.size) (hkp : ∀ m, m < w.heap.size → ok m → w'.heap[m]? = w.heap[m]? ∧ ok' m) : VBK9 a1 c1 s w' ok' v := by
  have _ := hsz
  revert h
  unfold VBK9
  split <;> intro h
  · exact h
  · exact h
  · obtain ⟨g, e0, h1⟩ := h; exact ⟨g, e0, h1.keep hkp⟩
  · obtain ⟨xa, xc, xd, xe, e0, h1, h2⟩ := h; exact ⟨xa, xc, xd, xe, e0, h1.keep hkp, h2.keep hkp⟩
  · exact h
  · obtain ⟨g, e0, h1⟩ := h; exact ⟨g, e0, h1.keep hkp⟩
  · obtain ⟨va, vc, vd, ve, e0, h1, h2⟩ := h; exact ⟨va, vc, vd, ve, e0, h1.keep hkp, h2.keep hkp⟩
  · trivial

theorem inf_ex : exR.infer 1 [tyA] [] [] = (0, tyA) := by rfl
theorem step_ex : exR.step false = (hdR 1 0, true) := by rfl
theorem Infer_ex (sl sb sr : Value) (w : World) (H : Holds w okT [tyA] sl) (hb : Holds w okT [] sb) (hr : HoldsR w okT [exB, hdR 1 0] sr) :
    Calls Try.prog 25 #[wov 1 sl (.slice none 0 0), .slice none 0 0, rwv 4 sb 0 0 sr] w fun e w' => ∃ a c, e = .returned (.tuple #[tv (.slice a 0 c) 0, .int .i64 0]) ∧ Holds w' okT [] (.slice a 0 c) ∧ Below w.heap.size w w' :=
  (Infer_calls [tyA] [] [] exR 1 sl (.slice none 0 0) (.slice none 0 0) sb sr w H (Holds.nil _ _ _ _ (fun _ => rfl)) (Holds.nil _ _ _ _ (fun _ => rfl)) hb hr (by decide +kernel) (by decide +kernel) (fun u hu => by cases hu) (by simp [exR, exB, appR, lamR, hdR, Rw.rng, rngR]) (by decide +kernel) (by decide +kernel)).mono fun e w' h => by
    rw [inf_ex] at h
    obtain ⟨a, n, c, h1, h2, h3⟩ := h
    have h2' : Holds w' okT [] (.slice a n c) := h2.t
    obtain ⟨_, _, e9, _⟩ := h2'.shape
    cases e9
    exact ⟨a, c, h1, h2', h3⟩
theorem Step_ex (sb sr : Value) (w : World) (hb : Holds w okT [] sb) (hr : HoldsR w okT [exB, hdR 1 0] sr) :
    Calls Try.prog 30 #[rwv 4 sb 0 0 sr] w fun e w' => ∃ a c a' c', e = .returned (.tuple #[rwv 1 (.slice a 0 c) 0 0 (.slice a' 0 c'), .bool true]) ∧ Holds w' okT [] (.slice a 0 c) ∧ HoldsR w' okT [] (.slice a' 0 c') ∧ Below w.heap.size w w' :=
  (StepF_calls exR okT sb sr w hb hr (Rw.fit_of_total _ (by decide +kernel)) (by decide +kernel)).mono fun e w' h => by
    unfold StepTold at h
    rw [step_ex] at h
    obtain ⟨vb, vr, h1, h2, h3, h4⟩ := h
    have h2' : Holds w' okT [] vb := h2.t
    have h3' : HoldsR w' okT [] vr := h3.t
    obtain ⟨a, c, rfl, _⟩ := h2'.shape
    obtain ⟨a', c', rfl, _⟩ := h3'.shape
    exact ⟨a, c, a', c', h1, h2', h3', h4⟩

set_option maxRecDepth 100000 in
set_option maxHeartbeats 3200000 in
theorem known_calls (w : World) : Calls Try.prog 9 #[] w fun e w' => e = .returned (.bool true) ∧ Below w.heap.size w w' := by
  obtain ⟨N, hN⟩ : ∃ N, w.heap.size = N := ⟨_, rfl⟩
  rw [hN]
  have k1 := kOf_calls 0 [] okT (.slice none 0 0) w (Holds.nil _ _ _ _ (fun _ => rfl)) (by decide +kernel)
  go_enter Try.func9, Try.ntmps9
  go_wp2_with fail
  refine k1.mono ?_
  rintro e w1 ⟨v1, rfl, h1, hb1⟩
  obtain ⟨a1, c1, hsl, hcap1, hnil1⟩ : ∃ a c, v1 = .slice a 0 c ∧ 0 ≤ c ∧ (a = none → c = 0) := by
    cases h1 with
    | mk ts a cap f hcap hnil hc hr => exact ⟨a, cap, rfl, Nat.zero_le _, hnil⟩
  subst hsl
  rw [hN] at hb1
  have hs1 : N ≤ w1.heap.size := by have := hb1.size; omega
  obtain ⟨w2, hw2⟩ : ∃ w2, w1.alloc (.cells #[.slice a1 0 c1, .int .i64 0] 32) = w2 := ⟨_, rfl⟩
  have bb2 : Below w1.heap.size w1 w2 := by rw [← hw2]; exact (Below.refl _ _).alloc (Nat.le_refl _) _
  have hB2 : Below N w w2 := hb1.trans (bb2.mono hs1)
  obtain ⟨A, hA⟩ : ∃ A, w1.heap.size = A := ⟨_, rfl⟩
  have bA : Blk w2 A 32 #[.slice a1 0 c1, .int .i64 0] := by rw [← hw2]; exact Blk.new' w1 A 32 _ hA
  have HW2 : Hid _ := hw2
  clear hw2 k1 hb1 bb2 h1
  go_upto_region 2 with fail
  rw [HW2.out]
  clear HW2
  go_cut [2] (fun s2 wx => ExBox w2 s2 wx)
  case first =>
    rename_i K Q' hKs
    refine (wpIn_wide (n := 9)).1 ?_
    show Code.wpIn Fence.wide 9 Try.prog (Code.region 2 _ true) _ (actBK9 A (.bool false) (undef) (undef) (undef) (undef) (tv (.slice a1 0 c1) 0) (undef) (undef) (undef) (undef) (undef) (undef) (undef) (undef) (undef) (undef) (undef) (undef) (undef) (undef) (undef) (undef) (undef) (undef) (undef) (undef) (undef) (undef) (undef) (undef) (undef) (undef) (undef) (undef) (fun | 2 => undef | 8 => undef | 9 => undef | 10 => undef | 11 => undef | 12 => undef | 13 => undef | 14 => undef | _ => undef)) w2
    refine region_boxes [(0, 0), (1, 0), (2, 0), (3, 0), (4, 0), (5, 0), (6, 0)] [⟨2, 14, 35, #[.int .i64 0, .slice none 0 0, .int .i64 0, .int .i64 0, .slice none 0 0], 7, 0, 8⟩] (fun s => Nat.beq s 2 || (Nat.ble 8 s && Nat.ble s 14)) (VBK9 a1 c1) (by kernel_rfl) (by kernel_rfl) (by kernel_rfl) (by kernel_rfl) (by kernel_rfl) (by kernel_rfl) (by kernel_rfl) (VBK9.keep a1 c1) ⟨?_, ?_, ?_, ?_, ?_, ?_, ?_, trivial⟩ ⟨⟨?_, ?_⟩, trivial⟩ ?_
    · intro o ho uu ok w hB hk K' hK
      cases ho
      have hcall := HeadX_calls 0 0 w
      have hK3 := fun (w2 : World) (hb2 : Below w.heap.size w w2) => hK (rwv 0 (.slice none 0 0) 0 0 (.slice none 0 0)) w2 (fun s hs => by cases hs; exact rfl) hb2
      simp only [over_actBK9] at hK3 ⊢
      clear hK hk
      unfold actBK9 at hK3 ⊢
      refine want_plain rfl ?_
      go_simp
      refine ⟨trivial, (callsIn_wide.2 hcall).mono ?_⟩
      rintro e w2 ⟨rfl, hb2⟩
      exact hK3 w2 hb2
    · intro o ho uu ok w hB hk K' hK
      cases ho
      have g0 := (cat hB bA.lt).trans (bA.cell 0)
      have g1 := (cat hB bA.lt).trans (bA.cell 1)
      have hK3 := hK (.agg #[.slice a1 0 c1, .int .i64 0]) w (fun s hs => by cases hs; exact rfl) (Below.refl _ _)
      simp only [over_actBK9] at hK3 ⊢
      clear hK hk
      unfold actBK9 at hK3 ⊢
      refine want_plain rfl ?_
      go_simp
      exact hK3
    · intro o ho uu ok w hB hk K' hK
      cases ho
      have e9 : uu 9 = .agg #[.slice a1 0 c1, .int .i64 0] := hk 9 (by decide +kernel) rfl
      have hK3 := hK (.slice (some ⟨w.heap.size, 0, none⟩) 1 1) (w.alloc (.cells #[.slice a1 0 c1, .int .i64 0] 32)) (fun s hs => by cases hs; exact ⟨w.heap.size, rfl, holds_tyB hnil1 _⟩) ((Below.refl _ _).alloc (Nat.le_refl _) _)
      simp only [over_actBK9] at hK3 ⊢
      clear hK hk
      unfold actBK9 at hK3 ⊢
      simp only [e9] at hK3 ⊢
      refine want_plain rfl ?_
      go_simp
      exact hK3
    · intro o ho uu ok w hB hk K' hK
      cases ho
      have e8 : uu 8 = rwv 0 (.slice none 0 0) 0 0 (.slice none 0 0) := hk 8 (by decide +kernel) rfl
      obtain ⟨g_10, e10, h10_1⟩ := hk 10 (by decide +kernel) rfl
      have hcall := Bind_ex (.slice none 0 0) (.slice none 0 0) (.slice (some ⟨g_10, 0, none⟩) 1 1) w (Holds.nil _ _ _ _ (fun _ => rfl)) (HoldsR.nil _ _ _ _ (fun _ => rfl)) h10_1.t
      have hK3 := fun (w2 : World) (xa : Option Addr) (xc : Nat) (xd : Option Addr) (xe : Nat) (h1 : Holds w2 (fun m => w.heap.size ≤ m) [] (.slice xa 0 xc)) (h2 : HoldsR w2 (fun m => w.heap.size ≤ m) [hdR 0 0] (.slice xd 1 xe)) (hb2 : Below w.heap.size w w2) => hK (rwv 3 (.slice xa 0 xc) 0 0 (.slice xd 1 xe)) w2 (fun s hs => by cases hs; exact ⟨xa, xc, xd, xe, rfl, h1.mono (fun _ _ h => .inl h), h2.mono (fun _ _ h => .inl h)⟩) hb2
      simp only [over_actBK9] at hK3 ⊢
      clear hK hk
      unfold actBK9 at hK3 ⊢
      simp only [e8, e10] at hK3 ⊢
      refine want_plain rfl ?_
      go_simp
      refine ⟨trivial, (callsIn_wide.2 hcall).mono ?_⟩
      rintro e w2 ⟨xa, xc, xd, xe, rfl, h1, h2, hbw⟩
      exact hK3 w2 xa xc xd xe h1 h2 hbw
    · intro o ho uu ok w hB hk K' hK
      cases ho
      have hcall := HeadX_calls 1 0 w
      have hK3 := fun (w2 : World) (hb2 : Below w.heap.size w w2) => hK (rwv 1 (.slice none 0 0) 0 0 (.slice none 0 0)) w2 (fun s hs => by cases hs; exact rfl) hb2
      simp only [over_actBK9] at hK3 ⊢
      clear hK hk
      unfold actBK9 at hK3 ⊢
      refine want_plain rfl ?_
      go_simp
      refine ⟨trivial, (callsIn_wide.2 hcall).mono ?_⟩
      rintro e w2 ⟨rfl, hb2⟩
      exact hK3 w2 hb2
    · intro o ho uu ok w hB hk K' hK
      cases ho
      have e12 : uu 12 = rwv 1 (.slice none 0 0) 0 0 (.slice none 0 0) := hk 12 (by decide +kernel) rfl
      have hK3 := hK (.slice (some ⟨w.heap.size, 0, none⟩) 1 1) (w.alloc (.cells #[.int .i64 1, .slice none 0 0, .int .i64 0, .int .i64 0, .slice none 0 0] 35)) (fun s hs => by cases hs; exact ⟨w.heap.size, rfl, holdsR_raw 1 0 _⟩) ((Below.refl _ _).alloc (Nat.le_refl _) _)
      simp only [over_actBK9] at hK3 ⊢
      clear hK hk
      unfold actBK9 at hK3 ⊢
      simp only [e12] at hK3 ⊢
      refine want_plain rfl ?_
      go_simp
      exact hK3
    · intro o ho uu ok w hB hk K' hK
      cases ho
      obtain ⟨xa_11, xc_11, xd_11, xe_11, e11, h11_1, h11_2⟩ := hk 11 (by decide +kernel) rfl
      obtain ⟨g_13, e13, h13_1⟩ := hk 13 (by decide +kernel) rfl
      have hcall := Call_ex (.slice xa_11 0 xc_11) (.slice xd_11 1 xe_11) (.slice (some ⟨g_13, 0, none⟩) 1 1) w h11_1.t h11_2.t h13_1.t
      have hK3 := fun (w2 : World) (va : Option Addr) (vc : Nat) (vd : Option Addr) (ve : Nat) (h1 : Holds w2 (fun m => w.heap.size ≤ m) [] (.slice va 0 vc)) (h2 : HoldsR w2 (fun m => w.heap.size ≤ m) [exB, hdR 1 0] (.slice vd 2 ve)) (hb2 : Below w.heap.size w w2) => hK (rwv 4 (.slice va 0 vc) 0 0 (.slice vd 2 ve)) w2 (fun s hs => by cases hs; exact ⟨va, vc, vd, ve, rfl, h1.mono (fun _ _ h => .inl h), h2.mono (fun _ _ h => .inl h)⟩) hb2
      simp only [over_actBK9] at hK3 ⊢
      clear hK hk
      unfold actBK9 at hK3 ⊢
      simp only [e11, e13] at hK3 ⊢
      refine want_plain rfl ?_
      go_simp
      refine ⟨trivial, (callsIn_wide.2 hcall).mono ?_⟩
      rintro e w2 ⟨va, vc, vd, ve, rfl, h1, h2, hbw⟩
      exact hK3 w2 va vc vd ve h1 h2 hbw
    · intro o ho uu w K' hK
      cases ho
      simp only [over_actBK9] at hK ⊢
      unfold actBK9 at hK ⊢
      refine want_plain rfl ?_
      go_simp
      exact hK
    · intro o ho uu ok w m hm hb hv K' hK
      cases ho
      dsimp only at hm hb hv hK
      obtain ⟨va, vc, vd, ve, e14, h1, h2⟩ := hv
      have fz0 := hb.frozen 0
      have cz0 := hb.cell 0
      have fz1 := hb.frozen 1
      have cz1 := hb.cell 1
      have fz2 := hb.frozen 2
      have cz2 := hb.cell 2
      have fz3 := hb.frozen 3
      have cz3 := hb.cell 3
      have fz4 := hb.frozen 4
      have cz4 := hb.cell 4
      have b9 := (((((hb.set 0 (.int .i64 4)).set 1 (.slice va 0 vc)).set 2 (.int .i64 0)).set 3 (.int .i64 0)).set 4 (.slice vd 2 ve))
      have o9 := ((((((Only.refl [m] w).set (B := m) (by simp) 0 (.int .i64 4)).set (B := m) (by simp) 1 (.slice va 0 vc)).set (B := m) (by simp) 2 (.int .i64 0)).set (B := m) (by simp) 3 (.int .i64 0)).set (B := m) (by simp) 4 (.slice vd 2 ve))
      rw [e14] at hK
      have hK3 := hK _ b9 o9
      simp only [over_actBK9] at hK3 ⊢
      clear hK b9 o9
      unfold actBK9 at hK3 ⊢
      simp only [hm, e14] at hK3 ⊢
      refine want_plain rfl ?_
      go_simp
      exact hK3
    · intro uu w' hB hv hbx
      have e8 : uu 8 = rwv 0 (.slice none 0 0) 0 0 (.slice none 0 0) := hv 8 (by decide +kernel) (by decide +kernel)
      have e9 : uu 9 = .agg #[.slice a1 0 c1, .int .i64 0] := hv 9 (by decide +kernel) (by decide +kernel)
      have e12 : uu 12 = rwv 1 (.slice none 0 0) 0 0 (.slice none 0 0) := hv 12 (by decide +kernel) (by decide +kernel)
      obtain ⟨g_10, e10, h10_1⟩ := hv 10 (by decide +kernel) (by decide +kernel)
      obtain ⟨xa_11, xc_11, xd_11, xe_11, e11, h11_1, h11_2⟩ := hv 11 (by decide +kernel) (by decide +kernel)
      obtain ⟨g_13, e13, h13_1⟩ := hv 13 (by decide +kernel) (by decide +kernel)
      obtain ⟨va_14, vc_14, vd_14, ve_14, e14, h14_1, h14_2⟩ := hv 14 (by decide +kernel) (by decide +kernel)
      obtain ⟨m0, em0, gm0, bm0⟩ := hbx _ List.mem_cons_self
      simp only [e14] at bm0
      rw [over_actBK9]
      refine hKs _ _ ?_
      unfold actBK9
      simp only [e8, e9, e12, e10, e11, e13, e14, em0]
      go_wp2_with fail
      go_meet
      exact ⟨m0, va_14, vc_14, vd_14, ve_14, rfl, bm0, h14_1.t, h14_2.t, hB⟩

  case rest =>
  obtain ⟨G, xa, xc, xd, xe, rfl, bG, hxb, hxr, hcx⟩ := hcut
  have bA3 := bA.bel hcx
  have hB3 : Below N w wc := hB2.trans (Below.mono hcx (by have := hB2.size; omega))
  obtain ⟨Z, hZ⟩ : ∃ Z, wc.heap.size = Z := ⟨_, rfl⟩
  obtain ⟨w4, hw4⟩ : ∃ w4, wc.alloc (.cells #[.slice a1 0 c1, .int .i64 0] 32) = w4 := ⟨_, rfl⟩
  have bb4 : Below wc.heap.size wc w4 := by rw [← hw4]; exact (Below.refl _ _).alloc (Nat.le_refl _) _
  have H4 : Holds w4 okT [tyA] (.slice (some ⟨Z, 0, none⟩) 1 1) := by rw [← hw4]; exact holds_tyA hnil1 hZ _
  have k25 := Infer_ex (.slice (some ⟨Z, 0, none⟩) 1 1) (.slice xa 0 xc) (.slice xd 2 xe) w4 H4 (hxb.bel bb4) (hxr.bel bb4)
  have hB4 : Below N w w4 := hB3.trans (bb4.mono (by have := hB3.size; omega))
  have bA4 := bA3.bel bb4
  have bG4 := bG.bel bb4
  have hxb4 := hxb.bel bb4
  have hxr4 := hxr.bel bb4
  have c0 := bA3.cell 0
  have c1' := bA3.cell 1
  have d0 := bG.cell 0
  have d1 := bG.cell 1
  have d2 := bG.cell 2
  have d3 := bG.cell 3
  have d4 := bG.cell 4
  have d5 := bG4.cell 0
  have d6 := bG4.cell 1
  have d7 := bG4.cell 2
  have d8 := bG4.cell 3
  have d9 := bG4.cell 4
  have hGl : G < wc.heap.size := bG.lt
  have hGZ : G < Z := by omega
  have hAl : A < wc.heap.size := bA3.lt
  have hAZ : A < Z := by omega
  have HW4 : Hid _ := hw4
  clear hw4 H4 bb4 hcx bA bG hxb hxr
  go_wp2_with fail
  rw [HW4.out]
  refine k25.mono ?_
  rintro e w5 ⟨ta, tc, rfl, ht5', hb5⟩
  clear k25 c0 c1' d0 d1 d2 d3 d4 d5 d6 d7 d8 d9 HW4
  have hb5' : Below w4.heap.size w4 w5 := hb5
  have hB5 : Below N w w5 := hB4.trans (hb5'.mono (by have := hB4.size; omega))
  have bA5 := bA4.bel hb5'
  have bG5 := bG4.bel hb5'
  have hxb5 := hxb4.bel hb5'
  have hxr5 := hxr4.bel hb5'
  obtain ⟨Y, hY⟩ : ∃ Y, w5.heap.size = Y := ⟨_, rfl⟩
  obtain ⟨w6, hw6⟩ : ∃ w6, w5.alloc (.cells #[.slice ta 0 tc, .int .i64 0] 32) = w6 := ⟨_, rfl⟩
  have bb6 : Below w5.heap.size w5 w6 := by rw [← hw6]; exact (Below.refl _ _).alloc (Nat.le_refl _) _
  have bT6 : Blk w6 Y 32 #[.slice ta 0 tc, .int .i64 0] := by rw [← hw6]; exact Blk.new' w5 Y 32 _ hY
  have hB6 : Below N w w6 := hB5.trans (bb6.mono (by have := hB5.size; omega))
  have bA6 := bA5.bel bb6
  have bG6 := bG5.bel bb6
  have hxb6 := hxb5.bel bb6
  have hxr6 := hxr5.bel bb6
  have ht6 := ht5'.bel bb6
  have k30 := Step_ex (.slice xa 0 xc) (.slice xd 2 xe) w6 hxb6 hxr6
  have d5 := bG6.cell 0
  have d6 := bG6.cell 1
  have d7 := bG6.cell 2
  have d8 := bG6.cell 3
  have d9 := bG6.cell 4
  have HW6 : Hid _ := hw6
  clear hw6 bb6 hb5 hb5' ht5' hB5 hB4 hB3 bA4 bA5 bG4 bG5 hxb4 hxb5 hxr4 hxr5 bA3
  go_upto_region 4 with fail
  rw [HW6.out]
  clear HW6
  go_wp2_with fail
  refine k30.mono ?_
  rintro e w7 ⟨sa, sc, sd, se, rfl, hvb', hvr', hb7⟩
  have hB7 : Below N w w7 := hB6.trans (hb7.mono (by have := hB6.size; omega))
  have bA7 := bA6.bel hb7
  have bT7 := bT6.bel hb7
  have ht7 := ht6.bel hb7
  obtain ⟨X, hX⟩ : ∃ X, w7.heap.size = X := ⟨_, rfl⟩
  obtain ⟨w8, hw8⟩ : ∃ w8, w7.alloc (.cells #[.int .i64 1, .slice sa 0 sc, .int .i64 0, .int .i64 0, .slice sd 0 se] 35) = w8 := ⟨_, rfl⟩
  have bb8 : Below w7.heap.size w7 w8 := by rw [← hw8]; exact (Below.refl _ _).alloc (Nat.le_refl _) _
  have bS8 : Blk w8 X 35 #[.int .i64 1, .slice sa 0 sc, .int .i64 0, .int .i64 0, .slice sd 0 se] := by rw [← hw8]; exact Blk.new' w7 X 35 _ hX
  have hB8 : Below N w w8 := hB7.trans (bb8.mono (by have := hB7.size; omega))
  have bA8 := bA7.bel bb8
  have bT8 := bT7.bel bb8
  have ht8 := ht7.bel bb8
  have hsb8 := hvb'.bel bb8
  have hsr8 := hvr'.bel bb8
  have HW8 : Hid _ := hw8
  clear hw8 bb8 hb7 hvb' hvr' k30 d5 d6 d7 d8 d9 ht6 ht7 bA6 bA7 bG6 bT6 bT7 hxb6 hxr6 hB6 hB7
  go_upto_region 5 with fail
  rw [HW8.out]
  clear HW8
  have q0 := fun d os => cell_regrown (bA8.cell 0) d os
  have q1 := fun d os => cell_regrown (bA8.cell 1) d os
  have q2 := fun d os => cell_regrown (bT8.cell 0) d os
  have q3 := fun d os => cell_regrown (bT8.cell 1) d os
  have q4 := fun d os => cell_regrown (bS8.cell 0) d os
  have q5 := fun d os => cell_regrown (bS8.cell 1) d os
  have q6 := fun d os => cell_regrown (bS8.cell 2) d os
  have q7 := fun d os => cell_regrown (bS8.cell 3) d os
  have q8 := fun d os => cell_regrown (bS8.cell 4) d os
  have CC1 : Hid (∀ d os, Calls Try.prog 31 #[tv (.slice ta 0 tc) 0, tv (.slice a1 0 c1) 0] (grow (redrawn w8 d) os) fun e w'' => e = .returned (.bool true) ∧ ∃ p : Regrown, w'' = grow (redrawn w8 p.d) p.os) := fun d os =>
    Calls.regrown_of (by have h9 := Equal_calls tyA (by decide +kernel) tyA okT (.slice ta 0 tc) (.slice a1 0 c1) (grow (redrawn w8 d) os) (ht8.bel (below_regrown w8 d os)) (Holds.nil _ _ _ _ hnil1); exact h9)
  have CC2 : Hid (∀ d os, Calls Try.prog 24 #[.int .i64 1, .int .i64 0] (grow (redrawn w8 d) os) fun e w'' => e = .returned (rwv 1 (.slice none 0 0) 0 0 (.slice none 0 0)) ∧ ∃ p : Regrown, w'' = grow (redrawn w8 p.d) p.os) := fun d os =>
    Calls.regrown_of (HeadX_calls 1 0 _)
  have CC3 : Hid (∀ d os, Calls Try.prog 17 #[rwv 1 (.slice sa 0 sc) 0 0 (.slice sd 0 se), rwv 1 (.slice none 0 0) 0 0 (.slice none 0 0)] (grow (redrawn w8 d) os) fun e w'' => e = .returned (.bool true) ∧ ∃ p : Regrown, w'' = grow (redrawn w8 p.d) p.os) := fun d os =>
    Calls.regrown_of (by have h9 := EqualR_calls (hdR 1 0) (by decide +kernel) (hdR 1 0) okT (.slice sa 0 sc) (.slice sd 0 se) (.slice none 0 0) (.slice none 0 0) (grow (redrawn w8 d) os) (hsb8.bel (below_regrown w8 d os)) (hsr8.bel (below_regrown w8 d os)) (Holds.nil _ _ _ _ (fun _ => rfl)) (HoldsR.nil _ _ _ _ (fun _ => rfl)); exact h9)
  clear ht8 hsb8 hsr8
  refine wp_region_quiet_below (by kernel_rfl) (by kernel_rfl) ?_
  repeat (go_big_quiet_step (first | (go_at_call 31; exact CC1.out _ _) | (go_at_call 24; exact CC2.out _ _) | (go_at_call 17; exact CC3.out _ _)))
  refine wpQuiet_nil ?_
  intro w9 hw'
  obtain ⟨p9, hw''⟩ := hw'
  have hb9 : Below w8.heap.size w8 w9 := by rw [hw'']; exact below_regrown _ _ _
  have hB9 : Below N w w9 := hB8.trans (hb9.mono (by have := hB8.size; omega))
  clear hw'' p9
  go_wp2
  go_ret
  exact ⟨rfl, hB9⟩

end Go.Proofs.Ytckagmagjogmnaa

