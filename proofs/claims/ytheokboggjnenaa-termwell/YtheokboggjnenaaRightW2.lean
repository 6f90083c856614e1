/-
  RightW2: several texts in one file.
-/
import Derived.Test.YtheokboggjnenaaOpen
import Derived.Test.YtheokboggjnenaaHeadC
import Derived.Test.YtheokboggjnenaaKnownT
import Derived.Test.YtheokboggjnenaaRight
import Derived.Lib.QuietBelow
/-
  A world that came in: its number of bases, and two lists of types.
-/
namespace Go.Proofs.Ytheokboggjnenaa
open Go Go.ChangeShapes Go.WideShapes Go.ChangeAt Go.RowKit Go.Joins

theorem cells53 : Try.prog.cellsOf 53 = 3 := by kernel_rfl

set_option maxRecDepth 100000 in
theorem world_open {H : Type} {enc : TypeId × Value → H} {W : World} {base : Nat} {v : Value} {d : DataW H} {p : List MemPlace} (hv : Value.okWide Try.prog W .any base 53 v) (h : DataW.Trod enc Try.prog W 0 (fun _ => true) true 53 v d p) :
    ∃ (bs : Int) (cs ms : List Ty) (c m : Value), v = wov bs c m ∧ Holds W okT cs c ∧ Holds W okT ms m := by
  obtain ⟨cs, rfl, hcs⟩ := okWide_struct Try.underlying53 hv
  rw [cells53] at hcs
  obtain ⟨v0, v1, v2, rfl⟩ : ∃ v0 v1 v2, cs = #[v0, v1, v2] := ⟨cs[0], cs[1], cs[2], by
    apply Array.ext
    · exact hcs
    · intro i h1 h2
      match i, h2 with
      | 0, _ => rfl
      | 1, _ => rfl
      | 2, _ => rfl⟩
  clear hv hcs
  obtain ⟨m, hm⟩ := h
  change DataW.trod enc Try.prog W 0 (fun _ => true) true m 53 [v0, v1, v2] = _ at hm
  obtain ⟨xs, m', _, _, _, hxl, hf⟩ := DataW.trod_struct Try.underlying53 hm
  obtain ⟨y0, hy0⟩ : ∃ y0, xs[0]? = some y0 := ⟨_, List.getElem?_eq_getElem (by rw [hxl]; decide)⟩
  obtain ⟨y1, hy1⟩ : ∃ y1, xs[1]? = some y1 := ⟨_, List.getElem?_eq_getElem (by rw [hxl]; decide)⟩
  obtain ⟨y2, hy2⟩ : ∃ y2, xs[2]? = some y2 := ⟨_, List.getElem?_eq_getElem (by rw [hxl]; decide)⟩
  have t0 := hf 0 _ rfl
  have t1 := hf 1 _ rfl
  have t2 := hf 2 _ rfl
  rw [hy0] at t0
  rw [hy1] at t1
  rw [hy2] at t2
  change DataW.trod enc Try.prog W 0 (fun _ => true) true m' 3 (List.take (Try.prog.cellsOf 3) (List.drop 0 [v0, v1, v2])) = some y0 at t0
  change DataW.trod enc Try.prog W 0 (fun _ => true) true m' 22 (List.take (Try.prog.cellsOf 22) (List.drop 1 [v0, v1, v2])) = some y1 at t1
  change DataW.trod enc Try.prog W 0 (fun _ => true) true m' 22 (List.take (Try.prog.cellsOf 22) (List.drop 2 [v0, v1, v2])) = some y2 at t2
  simp only [List.drop_zero, List.drop_succ_cons, cells3, cells22, List.take_succ_cons, List.take_zero] at t0 t1 t2
  obtain ⟨b, e0, _, _⟩ := DataW.trod_int Try.underlying3 t0
  obtain ⟨ts1, sl1, e1, h1⟩ := types_open m' _ _ t1
  obtain ⟨ts2, sl2, e2, h2⟩ := types_open m' _ _ t2
  simp only [List.cons.injEq, and_true] at e0 e1 e2
  subst e0 e1 e2
  exact ⟨b, ts1, ts2, v1, v2, rfl, h1, h2⟩

end Go.Proofs.Ytheokboggjnenaa

/-
  The contracts of the law's Small and of the document's RightWorld.
-/
namespace Go.Proofs.Ytheokboggjnenaa
open Go Go.RowKit Go.Sort

def AllUpY (p : Ty → Bool) (ts : List Ty) (k : Nat) : Prop := ∀ i t, i < k → ts[i]? = some t → p t = true
theorem AllUpY.step {p : Ty → Bool} {ts : List Ty} {k : Nat} {u : Ty} (h : AllUpY p ts k) (hu : ts[k]? = some u) (hp : p u = true) : AllUpY p ts (k + 1) := by
  intro i t hi ht
  rcases Nat.lt_or_ge i k with hl | hl
  · exact h i t hl ht
  · obtain rfl : i = k := by omega
    rw [hu] at ht; cases ht; exact hp
theorem AllUpY.all {p : Ty → Bool} {ts : List Ty} (h : AllUpY p ts ts.length) : ts.all p = true := by
  rw [List.all_eq_true]
  intro t ht
  obtain ⟨i, hi⟩ := List.mem_iff_getElem?.1 ht
  exact h i t (List.getElem?_eq_some_iff.1 hi).1 hi
theorem all_no {p : Ty → Bool} {ts : List Ty} {k : Nat} {u : Ty} (hu : ts[k]? = some u) (hp : p u = false) : ts.all p = false := by
  cases hb : ts.all p with
  | false => rfl
  | true =>
    have := List.all_eq_true.1 hb u (List.mem_of_getElem? hu)
    rw [hp] at this
    cases this

/-- Few and small enough. -/
def smallB (cs ms ctx : List Ty) : Bool := !(decide ((cs.length : Int) > 20) || decide ((ms.length : Int) > 20) || decide ((ctx.length : Int) > 20)) && ((cs ++ ms) ++ ctx).all (fewB 60 60)

set_option maxRecDepth 100000 in
set_option maxHeartbeats 1600000 in
theorem Small_calls (cs ms ctx : List Ty) (bs : Int) (cv mv xv : Value) (w : World) (hc : Holds w okT cs cv) (hm : Holds w okT ms mv) (hx : Holds w okT ctx xv) :
    Calls Try.prog 30 #[wov bs cv mv, xv] w fun e w' => e = .returned (.bool (smallB cs ms ctx)) ∧ Below w.heap.size w w' := by
  obtain ⟨c1, c2, rfl, _⟩ := hc.shape
  obtain ⟨m1, m2, rfl, _⟩ := hm.shape
  obtain ⟨a1, a2, rfl, _⟩ := hx.shape
  obtain ⟨N, hN⟩ : ∃ N, w.heap.size = N := ⟨_, rfl⟩
  rw [hN]
  obtain ⟨r, hr⟩ : ∃ r, smallB cs ms ctx = r := ⟨_, rfl⟩
  have HR : Hid ((!(decide ((cs.length : Int) > 20) || decide ((ms.length : Int) > 20) || decide ((ctx.length : Int) > 20)) && ((cs ++ ms) ++ ctx).all (fewB 60 60)) = r) := hr
  rw [hr]
  clear hr
  obtain ⟨q1, h1⟩ : ∃ q, decide ((cs.length : Int) > 20) = q := ⟨_, rfl⟩
  obtain ⟨q2, h2⟩ : ∃ q, decide ((ms.length : Int) > 20) = q := ⟨_, rfl⟩
  obtain ⟨q3, h3⟩ : ∃ q, decide ((ctx.length : Int) > 20) = q := ⟨_, rfl⟩
  rw [h1, h2, h3] at HR
  have h1' : decide (20 < (cs.length : Int)) = q1 := h1
  have h2' : decide (20 < (ms.length : Int)) = q2 := h2
  have h3' : decide (20 < (ctx.length : Int)) = q3 := h3
  obtain ⟨W0, hW0⟩ : ∃ W0, w.alloc (.cells #[.int .i64 bs, .slice c1 cs.length c2, .slice m1 ms.length m2] 53) = W0 := ⟨_, rfl⟩
  have b0 : Blk W0 N 53 #[.int .i64 bs, .slice c1 cs.length c2, .slice m1 ms.length m2] := by rw [← hW0]; exact Blk.new' w N 53 _ hN
  have bl0 : Below N w W0 := by rw [← hW0]; exact (Below.refl N w).alloc (by omega) _
  have hc0 := hc.bel (hN ▸ bl0)
  have hm0 := hm.bel (hN ▸ bl0)
  have hx0 := hx.bel (hN ▸ bl0)
  have HW : Hid _ := hW0
  have e1 := b0.cell 1
  have e2 := b0.cell 2
  have hl0 : N < W0.heap.size := b0.lt
  by_cases hbad : (q1 || q2 || q3) = true
  · have HR2 : Hid (r = false) := by show _ = _; rw [← HR.out, hbad]; rfl
    clear hW0 hc hm hx hc0 hm0 hx0 HR
    cases q1 <;> cases q2 <;> cases q3 <;> first
      | (simp at hbad; done)
      | (go_enter Try.func30, Try.ntmps30
         go_upto_region 1 with fail
         rw [HW.out]
         clear HW
         go_wp2
         go_ret
         exact ⟨ret_bool HR2.out.symm, bl0⟩)
  obtain ⟨rfl, rfl, rfl⟩ : q1 = false ∧ q2 = false ∧ q3 = false := by
    clear h1 h1' h2 h2' h3 h3' HR
    cases q1 <;> cases q2 <;> cases q3 <;> first | exact ⟨rfl, rfl, rfl⟩ | exact absurd rfl hbad
  have hcl : cs.length ≤ 20 := by have := of_decide_eq_false h1; omega
  have hml : ms.length ≤ 20 := by have := of_decide_eq_false h2; omega
  have hxl : ctx.length ≤ 20 := by have := of_decide_eq_false h3; omega
  have HR2 : Hid (((cs ++ ms) ++ ctx).all (fewB 60 60) = r) := by show _ = _; rw [← HR.out]; rfl
  have k1 := Behind_calls cs ms okT _ _ W0 hc0 hm0 (by omega)
  clear HR hW0 hbad
  go_enter Try.func30, Try.ntmps30
  go_upto_region 1 with fail
  rw [HW.out]
  clear HW
  go_wp2_with fail
  refine k1.mono ?_
  clear k1
  rintro e w1 ⟨v1, rfl, hv1, hb1⟩
  have hcml : (cs ++ ms).length ≤ 40 := by rw [List.length_append]; omega
  generalize cs ++ ms = cm at *
  obtain ⟨va, vc, rfl, _⟩ := hv1.shape
  have hB1 : Below N w w1 := bl0.trans (hb1.mono (by omega))
  have hx1 := hx0.bel hb1
  have k2 := Behind_calls cm ctx okT _ _ w1 hv1.t hx1 (by omega)
  have hl1 : N < w1.heap.size := by have := hb1.size; omega
  clear hv1 hb1 bl0 hc0 hm0 hx0 b0 e1 e2
  go_wp2_with fail
  refine k2.mono ?_
  clear k2
  rintro e w2 ⟨v2, rfl, hv2, hb2⟩
  have hll : (cm ++ ctx).length ≤ 60 := by rw [List.length_append]; omega
  generalize cm ++ ctx = ts at *
  obtain ⟨ya, yc, rfl, _, hat⟩ := hv2.shape
  have HA : Hid _ := hat
  have hB2 : Below N w w2 := hB1.trans (hb2.mono (by omega))
  have hl2 : N < w2.heap.size := by have := hb2.size; omega
  clear hat hb2 hB1 hx1
  go_wp2
  go_loopw [6] (fun i wr => ∃ k : Nat, k ≤ ts.length ∧ i = .int .i64 k ∧ Hid (AllUpY (fewB 60 60) ts k) ∧ Below N w wr ∧ Below w2.heap.size w2 wr) (fun i _ => ts.length - (intOf i).toNat)
  case atStart => exact ⟨0, Nat.zero_le _, rfl, fun _ _ h => by omega, hB2, Below.refl _ _⟩
  case round =>
    obtain ⟨k, hk, rfl, HF, hbl, hbl2⟩ := hrel
    by_cases hlt : k < ts.length
    · obtain ⟨u, hu⟩ : ∃ u, ts[k]? = some u := ⟨_, List.getElem?_eq_getElem hlt⟩
      obtain ⟨g, o, s, rfl, _, hg, a0, a1', hs⟩ := HA.out k u hu
      have q0 := (cat hbl2 hg).trans a0
      have q1 := (cat hbl2 hg).trans a1'
      have y1 : (0 : Int) ≤ (k : Int) := by omega
      have y2 : (k : Int) < (ts.length : Int) := by omega
      have hcall := Few_calls 60 (by omega) 60 (by omega) u _ s wr (hs.bel hbl2)
      have HU : Hid (ts[k]? = some u) := hu
      obtain ⟨fb, hfb⟩ : ∃ fb, fewB 60 60 u = fb := ⟨_, rfl⟩
      have HFB : Hid _ := hfb
      rw [hfb] at hcall
      clear a0 a1' hu hfb hs
      go_wp2_with fail
      refine hcall.mono ?_
      rintro e w3 ⟨rfl, hb3⟩
      have B3 : Below N w w3 := hbl.trans (hb3.mono (by have := hbl.size; omega))
      have B32 := hbl2.trans (hb3.mono (by have := hbl2.size; omega))
      cases fb with
      | false =>
        go_wp2
        go_ret
        exact ⟨ret_bool (by rw [← HR2.out]; exact (all_no HU.out HFB.out).symm), B3⟩
      | true =>
        go_wp2
        go_roundw
        case rel => exact ⟨k + 1, by omega, by go_num, HF.out.step HU.out HFB.out, B3, B32⟩
        case measure => simp [intOf]; omega
    · obtain rfl : k = ts.length := by omega
      go_wp2
      go_ret
      exact ⟨ret_bool (by rw [← HR2.out]; exact HF.out.all.symm), hbl⟩

end Go.Proofs.Ytheokboggjnenaa

/-
  The contracts of RightWorld: the document's, and the program's.
-/
namespace Go.Proofs.Ytheokboggjnenaa
open Go Go.RowKit Go.Sort

set_option maxRecDepth 100000 in
set_option maxHeartbeats 1600000 in
theorem refRightWorld_calls (cs ms : List Ty) (bs : Int) (cv mv : Value) (w : World) (hc : Holds w okT cs cv) (hm : Holds w okT ms mv) (lc : cs.length ≤ 20) (lm : ms.length ≤ 20) (sc : ∀ t ∈ cs, t.size ≤ 60) (sm : ∀ t ∈ ms, t.size ≤ 60) :
    Calls Try.prog 44 #[wov bs cv mv] w fun e w' => e = .returned (.bool (cs.all (rightB bs) && ms.all (rightB bs))) ∧ Below w.heap.size w w' := by
  obtain ⟨c1, c2, rfl, _, hat1⟩ := hc.shape
  obtain ⟨m1, m2, rfl, _, hat2⟩ := hm.shape
  have HC : Hid _ := hat1
  have HM : Hid _ := hat2
  obtain ⟨N, hN⟩ : ∃ N, w.heap.size = N := ⟨_, rfl⟩
  rw [hN]
  obtain ⟨r, hr⟩ : ∃ r, (cs.all (rightB bs) && ms.all (rightB bs)) = r := ⟨_, rfl⟩
  have HR : Hid ((cs.all (rightB bs) && ms.all (rightB bs)) = r) := hr
  rw [hr]
  have z1 : decide ((cs.length : Int) > 1000) = false := by simp; omega
  have z1' : decide (1000 < (cs.length : Int)) = false := by simp; omega
  have z2 : decide ((ms.length : Int) > 1000 - (cs.length : Int)) = false := by simp; omega
  have z2' : decide (1000 - (cs.length : Int) < (ms.length : Int)) = false := by simp; omega
  obtain ⟨W0, hW0⟩ : ∃ W0, w.alloc (.cells #[.int .i64 bs, .slice c1 cs.length c2, .slice m1 ms.length m2] 53) = W0 := ⟨_, rfl⟩
  have b0 : Blk W0 N 53 #[.int .i64 bs, .slice c1 cs.length c2, .slice m1 ms.length m2] := by rw [← hW0]; exact Blk.new' w N 53 _ hN
  have bl0 : Below N w W0 := by rw [← hW0]; exact (Below.refl N w).alloc (by omega) _
  have HW : Hid _ := hW0
  have e1 := b0.cell 1
  have e2 := b0.cell 2
  have HNN : Hid (w.heap.size = N) := hN
  clear hW0 hr hat1 hat2 hc hm
  go_enter Try.func44, Try.ntmps44
  go_upto_region 1 with fail
  rw [HW.out]
  clear HW
  go_wp2
  clear e1 e2
  go_loopw [3] (fun i wr => ∃ k : Nat, k ≤ cs.length ∧ i = .int .i64 k ∧ Hid (AllUpY (rightB bs) cs k) ∧ Blk wr N 53 #[.int .i64 bs, .slice c1 cs.length c2, .slice m1 ms.length m2] ∧ Below N w wr) (fun i _ => cs.length - (intOf i).toNat)
  case atStart => exact ⟨0, Nat.zero_le _, rfl, fun _ _ h => by omega, b0, bl0⟩
  case round =>
    obtain ⟨k, hk, rfl, HF, k0, hbl⟩ := hrel
    by_cases hlt : k < cs.length
    · obtain ⟨u, hu⟩ : ∃ u, cs[k]? = some u := ⟨_, List.getElem?_eq_getElem hlt⟩
      obtain ⟨g, o, s, rfl, _, hg, a0, a1', hs⟩ := HC.out k u hu
      rw [hN] at hg
      have n0 := fun d os => cell_regrown (k0.cell 0) d os
      have n1 := fun d os => cell_regrown (k0.cell 1) d os
      have nn := k0.cell 1
      have q0 := fun d os => cell_regrown ((cat hbl hg).trans a0) d os
      have q1 := fun d os => cell_regrown ((cat hbl hg).trans a1') d os
      have y1 : (0 : Int) ≤ (k : Int) := by omega
      have y2 : (k : Int) < (cs.length : Int) := by omega
      have hs2 := hs.bel (hN ▸ hbl)
      have HU : Hid (cs[k]? = some u) := hu
      obtain ⟨fb, hfb⟩ : ∃ fb, rightB bs u = fb := ⟨_, rfl⟩
      have HFB : Hid _ := hfb
      have hus := sc u (List.mem_of_getElem? hu)
      have CC : Hid (∀ d os, Calls Try.prog 82 #[tv s u.base, .int .i64 bs] (grow (redrawn wr d) os) fun e w'' => e = .returned (.bool fb) ∧ ∃ p : Regrown, w'' = grow (redrawn wr p.d) p.os) := fun d os =>
        Calls.regrown_of (by rw [← hfb]; exact refRight_calls bs u okT s _ (hs2.bel (below_regrown wr d os)) (by omega))
      clear a0 a1' hu hfb hs hs2
      go_wp2_with fail
      refine wp_region_quiet_below (by kernel_rfl) (by kernel_rfl) ?_
      repeat (go_big_quiet_step ((go_at_call 82; exact CC.out _ _)))
      refine wpQuiet_nil ?_
      intro w3 hw'
      obtain ⟨p, hw''⟩ := hw'
      have hb3 : Below wr.heap.size wr w3 := by rw [hw'']; exact below_regrown _ _ _
      clear hw'' p q0 q1 n0 n1 nn
      have B3 : Below N w w3 := hbl.trans (hb3.mono (by have := hbl.size; omega))
      cases fb with
      | false =>
        go_wp2
        go_ret
        exact ⟨ret_bool (by rw [← HR.out]; rw [all_no HU.out HFB.out]; rfl), B3⟩
      | true =>
        go_wp2
        go_roundw
        case rel => exact ⟨k + 1, by omega, by go_num, HF.out.step HU.out HFB.out, k0.below hb3 k0.lt, B3⟩
        case measure => simp [intOf]; omega
    · obtain rfl : k = cs.length := by omega
      have nn := k0.cell 1
      have HAC : Hid (cs.all (rightB bs) = true) := HF.out.all
      go_wp2
      clear HF nn hk hlt
      go_loopw [4] (fun i wr => ∃ k : Nat, k ≤ ms.length ∧ i = .int .i64 k ∧ Hid (AllUpY (rightB bs) ms k) ∧ Blk wr N 53 #[.int .i64 bs, .slice c1 cs.length c2, .slice m1 ms.length m2] ∧ Below N w wr) (fun i _ => ms.length - (intOf i).toNat)
      case atStart => exact ⟨0, Nat.zero_le _, rfl, fun _ _ h => by omega, k0, hbl⟩
      case round =>
        obtain ⟨k, hk, rfl, HF, k0, hbl⟩ := hrel
        by_cases hlt : k < ms.length
        · obtain ⟨u, hu⟩ : ∃ u, ms[k]? = some u := ⟨_, List.getElem?_eq_getElem hlt⟩
          obtain ⟨g, o, s, rfl, _, hg, a0, a1', hs⟩ := HM.out k u hu
          rw [hN] at hg
          have n0 := fun d os => cell_regrown (k0.cell 0) d os
          have n1 := fun d os => cell_regrown (k0.cell 2) d os
          have nn := k0.cell 2
          have q0 := fun d os => cell_regrown ((cat hbl hg).trans a0) d os
          have q1 := fun d os => cell_regrown ((cat hbl hg).trans a1') d os
          have y1 : (0 : Int) ≤ (k : Int) := by omega
          have y2 : (k : Int) < (ms.length : Int) := by omega
          have hs2 := hs.bel (hN ▸ hbl)
          have HU : Hid (ms[k]? = some u) := hu
          obtain ⟨fb, hfb⟩ : ∃ fb, rightB bs u = fb := ⟨_, rfl⟩
          have HFB : Hid _ := hfb
          have hus := sm u (List.mem_of_getElem? hu)
          have CC : Hid (∀ d os, Calls Try.prog 82 #[tv s u.base, .int .i64 bs] (grow (redrawn wr d) os) fun e w'' => e = .returned (.bool fb) ∧ ∃ p : Regrown, w'' = grow (redrawn wr p.d) p.os) := fun d os =>
            Calls.regrown_of (by rw [← hfb]; exact refRight_calls bs u okT s _ (hs2.bel (below_regrown wr d os)) (by omega))
          clear a0 a1' hu hfb hs hs2
          go_wp2_with fail
          refine wp_region_quiet_below (by kernel_rfl) (by kernel_rfl) ?_
          repeat (go_big_quiet_step ((go_at_call 82; exact CC.out _ _)))
          refine wpQuiet_nil ?_
          intro w3 hw'
          obtain ⟨p, hw''⟩ := hw'
          have hb3 : Below wr.heap.size wr w3 := by rw [hw'']; exact below_regrown _ _ _
          clear hw'' p q0 q1 n0 n1 nn
          have B3 : Below N w w3 := hbl.trans (hb3.mono (by have := hbl.size; omega))
          cases fb with
          | false =>
            go_wp2
            go_ret
            exact ⟨ret_bool (by rw [← HR.out]; rw [HAC.out, all_no HU.out HFB.out]; rfl), B3⟩
          | true =>
            go_wp2
            go_roundw
            case rel => exact ⟨k + 1, by omega, by go_num, HF.out.step HU.out HFB.out, k0.below hb3 k0.lt, B3⟩
            case measure => simp [intOf]; omega
        · obtain rfl : k = ms.length := by omega
          have nn := k0.cell 2
          go_wp2
          go_ret
          exact ⟨ret_bool (by rw [← HR.out, HAC.out, HF.out.all]; rfl), hbl⟩

end Go.Proofs.Ytheokboggjnenaa

/-
  The contract of term.RightWorld.
-/
namespace Go.Proofs.Ytheokboggjnenaa
open Go Go.RowKit Go.Sort

set_option maxRecDepth 100000 in
set_option maxHeartbeats 1600000 in
theorem wrong_calls (u : Ty) (bs : Int) (P : Nat) (s : Value) (w : World) (h : w.cell? ⟨P, 0, none⟩ = some (.int .i64 bs)) (hs : Holds w okT u.args s) (hz : u.size ≤ 60) :
    Calls Try.prog 79 #[tv s u.base, .pointer (some ⟨P, 0, none⟩)] w fun e w' => e = .returned (.bool (!rightB bs u)) ∧ Below w.heap.size w w' := by
  obtain ⟨a, cap, rfl, _⟩ := hs.shape
  obtain ⟨N, hN⟩ : ∃ N, w.heap.size = N := ⟨_, rfl⟩
  rw [hN]
  have hPN : P < N := by rw [← hN]; exact lt_of_cell h
  obtain ⟨n, hn⟩ : ∃ n, u.args.length = n := ⟨_, rfl⟩
  rw [hn] at hs ⊢
  obtain ⟨W0, hW0⟩ : ∃ W0, w.alloc (.cells #[.slice a n cap, .int .i64 u.base] 63) = W0 := ⟨_, rfl⟩
  have b0 : Blk W0 N 63 #[.slice a n cap, .int .i64 u.base] := by rw [← hW0]; exact Blk.new' w N 63 _ hN
  have bl0 : Below N w W0 := by rw [← hW0]; exact (Below.refl N w).alloc (by omega) _
  have HW : Hid _ := hW0
  have e0 := b0.cell 0
  have e1 := b0.cell 1
  have q0 := (cat bl0 hPN).trans h
  have hcall := kRight_calls bs u okT _ W0 (hs.bel (hN ▸ bl0)) (by omega)
  have hl0 : N < W0.heap.size := b0.lt
  obtain ⟨r, hr⟩ : ∃ r, rightB bs u = r := ⟨_, rfl⟩
  rw [hr] at hcall ⊢
  clear hW0 h hs hr hn
  go_enter Try.func79, Try.ntmps79
  go_upto_region 1 with fail
  rw [HW.out]
  clear HW
  go_wp2_with fail
  refine hcall.mono ?_
  clear hcall
  rintro e w1 ⟨rfl, hb1⟩
  have hB1 : Below N w w1 := bl0.trans (hb1.mono (by omega))
  go_wp2
  go_ret
  exact ⟨rfl, hB1⟩

/-- Where the first wrong one stands. -/
def FirstAt (bs : Int) (ts : List Ty) (v : Int) : Prop := decide (v ≥ 0) = !(ts.all (rightB bs))

set_option maxRecDepth 100000 in
set_option maxHeartbeats 1600000 in
theorem indexFunc_calls (ts : List Ty) (bs : Int) (P : Nat) (sl : Value) (w : World) (h : w.cell? ⟨P, 0, none⟩ = some (.int .i64 bs)) (hs : Holds w okT ts sl) (hz : ∀ t ∈ ts, t.size ≤ 60) (hl : ts.length ≤ 20) :
    Calls Try.prog 109 #[sl, .func (.func 79) #[] #[.pointer (some ⟨P, 0, none⟩)]] w fun e w' => ∃ v : Int, e = .returned (.int .i64 v) ∧ FirstAt bs ts v ∧ Below w.heap.size w w' := by
  obtain ⟨a, cap, rfl, _, hat⟩ := hs.shape
  have HA : Hid _ := hat
  obtain ⟨N, hN⟩ : ∃ N, w.heap.size = N := ⟨_, rfl⟩
  rw [hN]
  have hPN : P < N := by rw [← hN]; exact lt_of_cell h
  have HP : Hid _ := h
  clear hat h hs
  go_enter Try.func109, Try.ntmps109
  go_wp2
  go_loopw [8] (fun i wr => ∃ k : Nat, k ≤ ts.length ∧ i = .int .i64 k ∧ Hid (AllUpY (rightB bs) ts k) ∧ Below N w wr) (fun i _ => ts.length - (intOf i).toNat)
  case atStart => exact ⟨0, Nat.zero_le _, rfl, fun _ _ h => by omega, Below.refl _ _⟩
  case round =>
    obtain ⟨k, hk, rfl, HF, hbl⟩ := hrel
    by_cases hlt : k < ts.length
    · obtain ⟨u, hu⟩ : ∃ u, ts[k]? = some u := ⟨_, List.getElem?_eq_getElem hlt⟩
      obtain ⟨g, o, s, rfl, _, hg, a0, a1', hs⟩ := HA.out k u hu
      rw [hN] at hg
      have q0 := (cat hbl hg).trans a0
      have q1 := (cat hbl hg).trans a1'
      have y1 : (0 : Int) ≤ (k : Int) := by omega
      have y2 : (k : Int) < (ts.length : Int) := by omega
      have hcall := wrong_calls u bs P s wr ((cat hbl hPN).trans HP.out) (hs.bel (hN ▸ hbl)) (hz u (List.mem_of_getElem? hu))
      have HU : Hid (ts[k]? = some u) := hu
      obtain ⟨fb, hfb⟩ : ∃ fb, rightB bs u = fb := ⟨_, rfl⟩
      have HFB : Hid _ := hfb
      rw [hfb] at hcall
      obtain ⟨sa, sc, hse, _⟩ := hs.shape
      generalize u.args.length = un at hse
      subst hse
      clear a0 a1' hu hfb hs
      go_wp2_with fail
      refine hcall.mono ?_
      rintro e w3 ⟨rfl, hb3⟩
      have B3 : Below N w w3 := hbl.trans (hb3.mono (by have := hbl.size; omega))
      cases fb with
      | false =>
        go_wp2
        go_ret
        exact ⟨k, rfl, by unfold FirstAt; rw [all_no HU.out HFB.out, decide_eq_true (by omega)]; rfl, B3⟩
      | true =>
        go_wp2
        go_roundw
        case rel => exact ⟨k + 1, by omega, by go_num, HF.out.step HU.out HFB.out, B3⟩
        case measure => simp [intOf]; omega
    · obtain rfl : k = ts.length := by omega
      go_wp2
      go_ret
      exact ⟨-1, rfl, by unfold FirstAt; rw [HF.out.all]; rfl, hbl⟩

set_option maxRecDepth 100000 in
set_option maxHeartbeats 1600000 in
theorem containsFunc_calls (ts : List Ty) (bs : Int) (P : Nat) (sl : Value) (w : World) (h : w.cell? ⟨P, 0, none⟩ = some (.int .i64 bs)) (hs : Holds w okT ts sl) (hz : ∀ t ∈ ts, t.size ≤ 60) (hl : ts.length ≤ 20) :
    Calls Try.prog 81 #[sl, .func (.func 79) #[] #[.pointer (some ⟨P, 0, none⟩)]] w fun e w' => e = .returned (.bool !(ts.all (rightB bs))) ∧ Below w.heap.size w w' := by
  have hcall := indexFunc_calls ts bs P sl w h hs hz hl
  obtain ⟨a, cap, rfl, _⟩ := hs.shape
  obtain ⟨r, hr⟩ : ∃ r, ts.all (rightB bs) = r := ⟨_, rfl⟩
  have HR : Hid _ := hr
  rw [hr]
  clear hr h hs hz
  go_enter Try.func81, Try.ntmps81
  go_wp2_with fail
  refine hcall.mono ?_
  rintro e w1 ⟨v, rfl, hv, hb1⟩
  unfold FirstAt at hv
  rw [HR.out] at hv
  have hv' : decide (0 ≤ v) = !r := hv
  cases r <;> simp only [Bool.not_true, Bool.not_false] at hv hv'
  all_goals
    go_wp2
    go_ret
    exact ⟨rfl, hb1⟩

set_option maxRecDepth 100000 in
set_option maxHeartbeats 1600000 in
theorem RightWorld_calls (cs ms : List Ty) (bs : Int) (cv mv : Value) (w : World) (hc : Holds w okT cs cv) (hm : Holds w okT ms mv) (lc : cs.length ≤ 20) (lm : ms.length ≤ 20) (sc : ∀ t ∈ cs, t.size ≤ 60) (sm : ∀ t ∈ ms, t.size ≤ 60) :
    Calls Try.prog 43 #[wov bs cv mv] w fun e w' => e = .returned (.bool (cs.all (rightB bs) && ms.all (rightB bs))) ∧ Below w.heap.size w w' := by
  obtain ⟨c1, c2, rfl, _⟩ := hc.shape
  obtain ⟨m1, m2, rfl, _⟩ := hm.shape
  obtain ⟨N, hN⟩ : ∃ N, w.heap.size = N := ⟨_, rfl⟩
  rw [hN]
  obtain ⟨W0, hW0⟩ : ∃ W0, w.alloc (.cells #[.int .i64 bs, .slice c1 cs.length c2, .slice m1 ms.length m2] 59) = W0 := ⟨_, rfl⟩
  have b0 : Blk W0 N 59 #[.int .i64 bs, .slice c1 cs.length c2, .slice m1 ms.length m2] := by rw [← hW0]; exact Blk.new' w N 59 _ hN
  have bl0 : Below N w W0 := by rw [← hW0]; exact (Below.refl N w).alloc (by omega) _
  have HW : Hid _ := hW0
  have e1 := b0.cell 1
  have e2 := b0.cell 2
  have hl0 : N < W0.heap.size := b0.lt
  have k1 := containsFunc_calls cs bs N _ W0 (b0.cell 0) (hc.bel (hN ▸ bl0)) sc lc
  have k2 := fun cur (h : Below W0.heap.size W0 cur) => containsFunc_calls ms bs N _ cur ((cat h hl0).trans (b0.cell 0)) ((hm.bel (hN ▸ bl0)).bel h) sm lm
  have z1 : decide ((cs.length : Int) + (ms.length : Int) > 1000) = false := by simp; omega
  have z1' : decide (1000 < (cs.length : Int) + (ms.length : Int)) = false := by simp; omega
  obtain ⟨r1, h1⟩ : ∃ r, cs.all (rightB bs) = r := ⟨_, rfl⟩
  obtain ⟨r2, h2⟩ : ∃ r, ms.all (rightB bs) = r := ⟨_, rfl⟩
  rw [h1] at k1 ⊢
  rw [h2]
  simp only [h2] at k2
  clear hW0 hc hm sc sm h1 h2
  go_enter Try.func43, Try.ntmps43
  go_upto_region 1 with fail
  rw [HW.out]
  clear HW
  go_wp2_with fail
  refine k1.mono ?_
  clear k1
  rintro e w1 ⟨rfl, hb1⟩
  have hB1 : Below N w w1 := bl0.trans (hb1.mono (by omega))
  have k3 := k2 w1 hb1
  have f0 := b0.below hb1 b0.lt
  have e3 := f0.cell 2
  have hl1 : N < w1.heap.size := f0.lt
  clear k2 e1 e2
  cases r1 with
  | false =>
    go_wp2
    go_ret
    exact ⟨rfl, hB1⟩
  | true =>
    go_wp2_with fail
    refine k3.mono ?_
    rintro e w2 ⟨rfl, hb2⟩
    have hB2 : Below N w w2 := hB1.trans (hb2.mono (by omega))
    cases r2
    all_goals
      go_wp2
      go_ret
      exact ⟨rfl, hB2⟩

end Go.Proofs.Ytheokboggjnenaa

