/-
  The contracts of the document's shaped, Right and Loose.
-/
import Derived.Test.YtckagmagjogmnaaRightR
import Derived.Test.YtckagmagjogmnaaLooseR
namespace Go.Proofs.Ytckagmagjogmnaa
open Go Go.RowKit

set_option maxRecDepth 100000 in
set_option maxHeartbeats 3200000 in
theorem shaped_calls (t : Rw) : ∀ (ok : Nat → Prop) (sb sl : Value) (w : World), Holds w ok t.ty.args sb → HoldsR w ok t.kids sl → t.size ≤ 1000000 →
    Calls Try.prog 43 #[rwv t.kind sb t.ty.base t.idx sl] w fun e w' => e = .returned (.bool t.shaped) ∧ Below w.heap.size w w' := by
  induction t using Rw.ind with
  | h t ih =>
  intro ok sb sl w hb ha hsz
  obtain ⟨ts, hts⟩ : ∃ ts, t.kids = ts := ⟨_, rfl⟩
  have hsz2 := t.size_eq
  have hsh := t.shaped_eq
  rw [hts] at ha ih hsz2 hsh
  obtain ⟨x1, x2, rfl, _⟩ := hb.shape
  generalize t.ty.args.length = bn at *
  obtain ⟨a, cap, rfl, hcap, hat⟩ := ha.shape
  have HA : Hid _ := hat
  have HIH : Hid _ := ih
  have HSZ : Hid _ := hsz2
  have hln := sizeR_length ts
  have hkl : ts.length ≤ 1000000 := by omega
  obtain ⟨N, hN⟩ : ∃ N, w.heap.size = N := ⟨_, rfl⟩
  have HN : Hid (w.heap.size = N) := hN
  obtain ⟨K, hK⟩ : ∃ K, t.kind = K := ⟨_, rfl⟩
  rw [hK] at hsh
  rw [hK]
  obtain ⟨W, hW⟩ : ∃ W, w.alloc (.cells #[.int .i64 K, .slice x1 bn x2, .int .i64 t.ty.base, .int .i64 t.idx, .slice a ts.length cap] 27) = W := ⟨_, rfl⟩
  have b0 : Blk W N 27 #[.int .i64 K, .slice x1 bn x2, .int .i64 t.ty.base, .int .i64 t.idx, .slice a ts.length cap] := by rw [← hW]; exact Blk.new' w N 27 _ hN
  have bl0 : Below N w W := by rw [← hW]; exact (Below.refl N w).alloc (by omega) _
  have HW : Hid _ := hW
  have c0 := b0.cell 0
  have c4 := b0.cell 4
  obtain ⟨rs, hrs⟩ : ∃ rs, t.shaped = rs := ⟨_, rfl⟩
  rw [hrs] at hsh
  rw [hrs, hN]
  have HSH : Hid _ := hsh
  clear hW hat ha hb ih hts hsz2 hsh hln hK hrs
  by_cases h0 : K = 0
  · subst h0
    by_cases hle : ts.length = 0
    · have z9 : ((ts.length : Int) != 0) = false := by simp [hle]
      have HR : Hid (rs = shapedR ts) := by show _ = _; rw [HSH.out, hle]; exact Bool.true_and _
      have HLE : Hid (ts.length = 0) := hle
      clear HSH hle
      go_enter Try.func43, Try.ntmps43
      go_upto_region 1 with fail
      rw [HW.out]
      clear HW hN
      go_wp2_with fail
      go_loopw [4] (fun i wr => ∃ k : Nat, k ≤ 0 ∧ i = .int .i64 k ∧ Hid (ShapedUp ts k) ∧ Blk wr N 27 #[.int .i64 0, .slice x1 bn x2, .int .i64 t.ty.base, .int .i64 t.idx, .slice a ts.length cap] ∧ Below N w wr)
        (fun i _ => 0 - (intOf i).toNat)
      case atStart => exact ⟨0, Nat.zero_le _, rfl, (fun _ _ h => by omega), b0, bl0⟩
      case round =>
        clear b0 bl0 c0 c4
        obtain ⟨k, hk, rfl, HF, hb, hbl⟩ := hrel
        have r0 := hb.cell 4
        obtain rfl : k = 0 := by omega
        have z : decide (((0 : Nat) : Int) < 0) = false := by simp
        have HL : Hid (rs = true) := by show _ = _; rw [HR.out]; exact ShapedUp.all (by rw [HLE.out]; exact HF.out)
        go_wp2
        go_ret
        exact ⟨ret_bool HL.out.symm, hbl⟩
    · have z9 : ((ts.length : Int) != 0) = true := bne_iff_ne.2 (by omega)
      have HR : Hid (rs = false) := by
        have e : wellR 0 ts.length = (ts.length == 0) := by first | rfl | (unfold wellR; simp [isHd])
        show _ = _
        rw [HSH.out, e, beq_eq_false_iff_ne.2 hle, Bool.false_and]
      clear HSH
      go_enter Try.func43, Try.ntmps43
      go_upto_region 1 with fail
      rw [HW.out]
      clear HW hN
      go_wp2
      go_ret
      exact ⟨ret_bool HR.out.symm, bl0⟩
  · have z0 : (K == 0) = false := by simp [h0]
    by_cases h1 : K = 1
    · subst h1
      by_cases hle : ts.length = 0
      · have z9 : ((ts.length : Int) != 0) = false := by simp [hle]
        have HR : Hid (rs = shapedR ts) := by show _ = _; rw [HSH.out, hle]; exact Bool.true_and _
        have HLE : Hid (ts.length = 0) := hle
        clear HSH hle
        go_enter Try.func43, Try.ntmps43
        go_upto_region 1 with fail
        rw [HW.out]
        clear HW hN
        go_wp2_with fail
        go_loopw [4] (fun i wr => ∃ k : Nat, k ≤ 0 ∧ i = .int .i64 k ∧ Hid (ShapedUp ts k) ∧ Blk wr N 27 #[.int .i64 1, .slice x1 bn x2, .int .i64 t.ty.base, .int .i64 t.idx, .slice a ts.length cap] ∧ Below N w wr)
          (fun i _ => 0 - (intOf i).toNat)
        case atStart => exact ⟨0, Nat.zero_le _, rfl, (fun _ _ h => by omega), b0, bl0⟩
        case round =>
          clear b0 bl0 c0 c4
          obtain ⟨k, hk, rfl, HF, hb, hbl⟩ := hrel
          have r0 := hb.cell 4
          obtain rfl : k = 0 := by omega
          have z : decide (((0 : Nat) : Int) < 0) = false := by simp
          have HL : Hid (rs = true) := by show _ = _; rw [HR.out]; exact ShapedUp.all (by rw [HLE.out]; exact HF.out)
          go_wp2
          go_ret
          exact ⟨ret_bool HL.out.symm, hbl⟩
      · have z9 : ((ts.length : Int) != 0) = true := bne_iff_ne.2 (by omega)
        have HR : Hid (rs = false) := by
          have e : wellR 1 ts.length = (ts.length == 0) := by first | rfl | (unfold wellR; simp [isHd])
          show _ = _
          rw [HSH.out, e, beq_eq_false_iff_ne.2 hle, Bool.false_and]
        clear HSH
        go_enter Try.func43, Try.ntmps43
        go_upto_region 1 with fail
        rw [HW.out]
        clear HW hN
        go_wp2
        go_ret
        exact ⟨ret_bool HR.out.symm, bl0⟩
    · have z1 : (K == 1) = false := by simp [h1]
      by_cases h2 : K = 2
      · subst h2
        by_cases hle : ts.length = 0
        · have z9 : ((ts.length : Int) != 0) = false := by simp [hle]
          have HR : Hid (rs = shapedR ts) := by show _ = _; rw [HSH.out, hle]; exact Bool.true_and _
          have HLE : Hid (ts.length = 0) := hle
          clear HSH hle
          go_enter Try.func43, Try.ntmps43
          go_upto_region 1 with fail
          rw [HW.out]
          clear HW hN
          go_wp2_with fail
          go_loopw [4] (fun i wr => ∃ k : Nat, k ≤ 0 ∧ i = .int .i64 k ∧ Hid (ShapedUp ts k) ∧ Blk wr N 27 #[.int .i64 2, .slice x1 bn x2, .int .i64 t.ty.base, .int .i64 t.idx, .slice a ts.length cap] ∧ Below N w wr)
            (fun i _ => 0 - (intOf i).toNat)
          case atStart => exact ⟨0, Nat.zero_le _, rfl, (fun _ _ h => by omega), b0, bl0⟩
          case round =>
            clear b0 bl0 c0 c4
            obtain ⟨k, hk, rfl, HF, hb, hbl⟩ := hrel
            have r0 := hb.cell 4
            obtain rfl : k = 0 := by omega
            have z : decide (((0 : Nat) : Int) < 0) = false := by simp
            have HL : Hid (rs = true) := by show _ = _; rw [HR.out]; exact ShapedUp.all (by rw [HLE.out]; exact HF.out)
            go_wp2
            go_ret
            exact ⟨ret_bool HL.out.symm, hbl⟩
        · have z9 : ((ts.length : Int) != 0) = true := bne_iff_ne.2 (by omega)
          have HR : Hid (rs = false) := by
            have e : wellR 2 ts.length = (ts.length == 0) := by first | rfl | (unfold wellR; simp [isHd])
            show _ = _
            rw [HSH.out, e, beq_eq_false_iff_ne.2 hle, Bool.false_and]
          clear HSH
          go_enter Try.func43, Try.ntmps43
          go_upto_region 1 with fail
          rw [HW.out]
          clear HW hN
          go_wp2
          go_ret
          exact ⟨ret_bool HR.out.symm, bl0⟩
      · have z2 : (K == 2) = false := by simp [h2]
        by_cases h3 : K = 3
        · subst h3
          by_cases hle : ts.length = 1
          · have z9 : ((ts.length : Int) != 1) = false := by simp [hle]
            have HR : Hid (rs = shapedR ts) := by show _ = _; rw [HSH.out, hle]; exact Bool.true_and _
            have HLE : Hid (ts.length = 1) := hle
            clear HSH hle
            go_enter Try.func43, Try.ntmps43
            go_upto_region 1 with fail
            rw [HW.out]
            clear HW hN
            go_wp2_with fail
            go_loopw [4] (fun i wr => ∃ k : Nat, k ≤ 1 ∧ i = .int .i64 k ∧ Hid (ShapedUp ts k) ∧ Blk wr N 27 #[.int .i64 3, .slice x1 bn x2, .int .i64 t.ty.base, .int .i64 t.idx, .slice a ts.length cap] ∧ Below N w wr)
              (fun i _ => 1 - (intOf i).toNat)
            case atStart => exact ⟨0, Nat.zero_le _, rfl, (fun _ _ h => by omega), b0, bl0⟩
            case round =>
              clear b0 bl0 c0 c4
              obtain ⟨k, hk, rfl, HF, hb, hbl⟩ := hrel
              have r0 := hb.cell 4
              by_cases hlt : k < 1
              · have z : decide ((k : Int) < 1) = true := by simp; omega
                obtain ⟨u, hu⟩ : ∃ u, ts[k]? = some u := ⟨_, List.getElem?_eq_getElem (by rw [HLE.out]; exact hlt)⟩
                obtain ⟨g, o, s, r, rfl, _, hg, a0, a1, a2, a3, a4, hs, hr⟩ := HA.out k u hu
                rw [HN.out] at hg
                obtain ⟨sa, sc, rfl, _⟩ := hs.shape
                obtain ⟨sd, se, rfl, _⟩ := hr.shape
                have q0 := (cat hbl hg).trans a0
                have q1 := (cat hbl hg).trans a1
                have q2 := (cat hbl hg).trans a2
                have q3 := (cat hbl hg).trans a3
                have q4 := (cat hbl hg).trans a4
                have hm := List.mem_of_getElem? hu
                have hus := rsize_mem hm
                have HU : Hid (ts[k]? = some u) := hu
                generalize u.ty.args.length = n1 at *
                generalize u.kids.length = n2 at *
                have y1 : (0 : Int) ≤ (k : Int) := by omega
                have y2 : (k : Int) < (ts.length : Int) := by rw [HLE.out]; omega
                have hcall := HIH.out u hm ok _ _ wr (hs.bel (by rw [HN.out]; exact hbl)) (hr.bel (by rw [HN.out]; exact hbl)) (by have := HSZ.out; omega)
                obtain ⟨q, hq⟩ : ∃ q, u.shaped = q := ⟨_, rfl⟩
                have HQ : Hid (u.shaped = q) := hq
                rw [hq] at hcall
                clear a0 a1 a2 a3 a4 hu hs hr hq
                go_wp2_with fail
                refine hcall.mono ?_
                rintro e w3 ⟨rfl, hb3⟩
                have B3 : Below N w w3 := hbl.trans (hb3.mono (by have := hb.lt; omega))
                cases q with
                | false =>
                  go_wp2
                  go_ret
                  exact ⟨ret_bool (by rw [HR.out]; exact (shapedR_no (List.mem_of_getElem? HU.out) HQ.out).symm), B3⟩
                | true =>
                  go_wp2
                  go_roundw
                  case rel => exact ⟨k + 1, by omega, by go_num, HF.out.step HU.out HQ.out, hb.below hb3 hb.lt, B3⟩
                  case measure => simp [intOf]; omega
              · obtain rfl : k = 1 := by omega
                have z : decide (((1 : Nat) : Int) < 1) = false := by simp
                have HL : Hid (rs = true) := by show _ = _; rw [HR.out]; exact ShapedUp.all (by rw [HLE.out]; exact HF.out)
                go_wp2
                go_ret
                exact ⟨ret_bool HL.out.symm, hbl⟩
          · have z9 : ((ts.length : Int) != 1) = true := bne_iff_ne.2 (by omega)
            have HR : Hid (rs = false) := by
              have e : wellR 3 ts.length = (ts.length == 1) := by first | rfl | (unfold wellR; simp [isHd])
              show _ = _
              rw [HSH.out, e, beq_eq_false_iff_ne.2 hle, Bool.false_and]
            clear HSH
            go_enter Try.func43, Try.ntmps43
            go_upto_region 1 with fail
            rw [HW.out]
            clear HW hN
            go_wp2
            go_ret
            exact ⟨ret_bool HR.out.symm, bl0⟩
        · have z3 : (K == 3) = false := by simp [h3]
          by_cases h4 : K = 4
          · subst h4
            by_cases hle : ts.length = 2
            · have z9 : ((ts.length : Int) != 2) = false := by simp [hle]
              have HR : Hid (rs = shapedR ts) := by show _ = _; rw [HSH.out, hle]; exact Bool.true_and _
              have HLE : Hid (ts.length = 2) := hle
              clear HSH hle
              go_enter Try.func43, Try.ntmps43
              go_upto_region 1 with fail
              rw [HW.out]
              clear HW hN
              go_wp2_with fail
              go_loopw [4] (fun i wr => ∃ k : Nat, k ≤ 2 ∧ i = .int .i64 k ∧ Hid (ShapedUp ts k) ∧ Blk wr N 27 #[.int .i64 4, .slice x1 bn x2, .int .i64 t.ty.base, .int .i64 t.idx, .slice a ts.length cap] ∧ Below N w wr)
                (fun i _ => 2 - (intOf i).toNat)
              case atStart => exact ⟨0, Nat.zero_le _, rfl, (fun _ _ h => by omega), b0, bl0⟩
              case round =>
                clear b0 bl0 c0 c4
                obtain ⟨k, hk, rfl, HF, hb, hbl⟩ := hrel
                have r0 := hb.cell 4
                by_cases hlt : k < 2
                · have z : decide ((k : Int) < 2) = true := by simp; omega
                  obtain ⟨u, hu⟩ : ∃ u, ts[k]? = some u := ⟨_, List.getElem?_eq_getElem (by rw [HLE.out]; exact hlt)⟩
                  obtain ⟨g, o, s, r, rfl, _, hg, a0, a1, a2, a3, a4, hs, hr⟩ := HA.out k u hu
                  rw [HN.out] at hg
                  obtain ⟨sa, sc, rfl, _⟩ := hs.shape
                  obtain ⟨sd, se, rfl, _⟩ := hr.shape
                  have q0 := (cat hbl hg).trans a0
                  have q1 := (cat hbl hg).trans a1
                  have q2 := (cat hbl hg).trans a2
                  have q3 := (cat hbl hg).trans a3
                  have q4 := (cat hbl hg).trans a4
                  have hm := List.mem_of_getElem? hu
                  have hus := rsize_mem hm
                  have HU : Hid (ts[k]? = some u) := hu
                  generalize u.ty.args.length = n1 at *
                  generalize u.kids.length = n2 at *
                  have y1 : (0 : Int) ≤ (k : Int) := by omega
                  have y2 : (k : Int) < (ts.length : Int) := by rw [HLE.out]; omega
                  have hcall := HIH.out u hm ok _ _ wr (hs.bel (by rw [HN.out]; exact hbl)) (hr.bel (by rw [HN.out]; exact hbl)) (by have := HSZ.out; omega)
                  obtain ⟨q, hq⟩ : ∃ q, u.shaped = q := ⟨_, rfl⟩
                  have HQ : Hid (u.shaped = q) := hq
                  rw [hq] at hcall
                  clear a0 a1 a2 a3 a4 hu hs hr hq
                  go_wp2_with fail
                  refine hcall.mono ?_
                  rintro e w3 ⟨rfl, hb3⟩
                  have B3 : Below N w w3 := hbl.trans (hb3.mono (by have := hb.lt; omega))
                  cases q with
                  | false =>
                    go_wp2
                    go_ret
                    exact ⟨ret_bool (by rw [HR.out]; exact (shapedR_no (List.mem_of_getElem? HU.out) HQ.out).symm), B3⟩
                  | true =>
                    go_wp2
                    go_roundw
                    case rel => exact ⟨k + 1, by omega, by go_num, HF.out.step HU.out HQ.out, hb.below hb3 hb.lt, B3⟩
                    case measure => simp [intOf]; omega
                · obtain rfl : k = 2 := by omega
                  have z : decide (((2 : Nat) : Int) < 2) = false := by simp
                  have HL : Hid (rs = true) := by show _ = _; rw [HR.out]; exact ShapedUp.all (by rw [HLE.out]; exact HF.out)
                  go_wp2
                  go_ret
                  exact ⟨ret_bool HL.out.symm, hbl⟩
            · have z9 : ((ts.length : Int) != 2) = true := bne_iff_ne.2 (by omega)
              have HR : Hid (rs = false) := by
                have e : wellR 4 ts.length = (ts.length == 2) := by first | rfl | (unfold wellR; simp [isHd])
                show _ = _
                rw [HSH.out, e, beq_eq_false_iff_ne.2 hle, Bool.false_and]
              clear HSH
              go_enter Try.func43, Try.ntmps43
              go_upto_region 1 with fail
              rw [HW.out]
              clear HW hN
              go_wp2
              go_ret
              exact ⟨ret_bool HR.out.symm, bl0⟩
          · have z4 : (K == 4) = false := by simp [h4]
            have HR : Hid (rs = false) := by
              have e : wellR K ts.length = false := by
                unfold wellR
                rw [if_neg h3, if_neg h4]
                rcases isHd_cases K with ⟨h, _⟩ | ⟨h, _⟩ | ⟨h, _⟩ | ⟨_, _, _, h⟩
                · exact absurd h h0
                · exact absurd h h1
                · exact absurd h h2
                · rw [h]; rfl
              show _ = _
              rw [HSH.out, e, Bool.false_and]
            clear HSH h0 h1 h2 h3 h4
            go_enter Try.func43, Try.ntmps43
            go_upto_region 1 with fail
            rw [HW.out]
            clear HW hN
            go_wp2
            go_ret
            exact ⟨ret_bool HR.out.symm, bl0⟩

set_option maxRecDepth 100000 in
theorem refRightR_calls (t : Rw) (ok : Nat → Prop) (sb sl : Value) (w : World) (hb : Holds w ok t.ty.args sb) (ha : HoldsR w ok t.kids sl) (hsz : t.size ≤ 1000000) :
    Calls Try.prog 12 #[rwv t.kind sb t.ty.base t.idx sl] w fun e w' => e = .returned (.bool t.right) ∧ Below w.heap.size w w' := by
  obtain ⟨N, hN⟩ : ∃ N, w.heap.size = N := ⟨_, rfl⟩
  rw [hN]
  have hcs := fun cur (h1 : Holds cur ok t.ty.args sb) (h2 : HoldsR cur ok t.kids sl) => shaped_calls t ok sb sl cur h1 h2 hsz
  have hcz := fun cur (h1 : Holds cur ok t.ty.args sb) (h2 : HoldsR cur ok t.kids sl) => refSizeR_calls t ok sb sl cur h1 h2 hsz
  have hcd := fun cur (h1 : Holds cur ok t.ty.args sb) (h2 : HoldsR cur ok t.kids sl) => refDepthR_calls t ok sb sl cur h1 h2 hsz
  obtain ⟨x1, x2, rfl, _⟩ := hb.shape
  obtain ⟨x3, x4, rfl, _⟩ := ha.shape
  obtain ⟨n1, hn1⟩ : ∃ n, t.ty.args.length = n := ⟨_, rfl⟩
  obtain ⟨n2, hn2⟩ : ∃ n, t.kids.length = n := ⟨_, rfl⟩
  rw [hn1, hn2] at hcs hcz hcd
  rw [hn1] at hb ⊢
  rw [hn2] at ha ⊢
  obtain ⟨W, hW⟩ : ∃ W, w.alloc (.cells #[.int .i64 t.kind, .slice x1 n1 x2, .int .i64 t.ty.base, .int .i64 t.idx, .slice x3 n2 x4] 27) = W := ⟨_, rfl⟩
  have b0 : Blk W N 27 #[.int .i64 t.kind, .slice x1 n1 x2, .int .i64 t.ty.base, .int .i64 t.idx, .slice x3 n2 x4] := by rw [← hW]; exact Blk.new' w N 27 _ hN
  have bl0 : Below N w W := by rw [← hW]; exact (Below.refl N w).alloc (by omega) _
  have hb0 := hb.bel (hN ▸ bl0)
  have ha0 := ha.bel (hN ▸ bl0)
  have hc1 := hcs W hb0 ha0
  have HQ : Hid (t.right = (t.shaped && decide (t.size ≤ 5000) && decide (t.depth ≤ 60))) := rfl
  have c0 := b0.cell 0
  have c1 := b0.cell 1
  have c2 := b0.cell 2
  have c3 := b0.cell 3
  have c4 := b0.cell 4
  have l1 := b0.lt
  have HW : Hid _ := hW
  have HCZ : Hid _ := hcz
  have HCD : Hid _ := hcd
  have hz1 : (decide ((t.size : Int) ≤ 5000)) = decide (t.size ≤ 5000) := by rw [decide_eq_decide]; omega
  have hz2 : (decide ((t.depth : Int) ≤ 60)) = decide (t.depth ≤ 60) := by rw [decide_eq_decide]; omega
  generalize t.right = rt at *
  generalize t.shaped = q1 at *
  generalize decide (t.size ≤ 5000) = q2 at *
  generalize decide (t.depth ≤ 60) = q3 at *
  clear hW hb ha hn1 hn2 hcs hcz hcd
  go_enter Try.func12, Try.ntmps12
  go_upto_region 1 with fail
  rw [HW.out]
  clear HW hN
  go_wp2_with fail
  refine hc1.mono ?_
  rintro e w1 ⟨rfl, hb1⟩
  have B1 : Below N w w1 := bl0.trans (hb1.mono (by omega))
  have b1 := b0.below hb1 b0.lt
  have hb2 := hb0.bel hb1
  have ha2 := ha0.bel hb1
  clear c0 c1 c2 c3 c4 b0 hb0 ha0 hc1 bl0 hb1 l1
  cases q1 with
  | false =>
    go_wp2
    go_ret
    exact ⟨ret_bool (by rw [HQ.out]; rfl), B1⟩
  | true =>
    have c0 := b1.cell 0
    have c1 := b1.cell 1
    have c2 := b1.cell 2
    have c3 := b1.cell 3
    have c4 := b1.cell 4
    have l1 := b1.lt
    have hc2 := HCZ.out w1 hb2 ha2
    go_wp2_with fail
    refine hc2.mono ?_
    rintro e w2 ⟨rfl, hbw⟩
    have B2 : Below N w w2 := B1.trans (hbw.mono (by omega))
    have b2 := b1.below hbw b1.lt
    have hb3 := hb2.bel hbw
    have ha3 := ha2.bel hbw
    clear c0 c1 c2 c3 c4 b1 hb2 ha2 hc2 B1 hbw l1
    cases q2 with
    | false =>
      go_wp2
      go_ret
      exact ⟨ret_bool (by rw [HQ.out]; rfl), B2⟩
    | true =>
      have c0 := b2.cell 0
      have c1 := b2.cell 1
      have c2 := b2.cell 2
      have c3 := b2.cell 3
      have c4 := b2.cell 4
      have l1 := b2.lt
      have hc3 := HCD.out w2 hb3 ha3
      go_wp2_with fail
      refine hc3.mono ?_
      rintro e w3 ⟨rfl, hbw⟩
      have B3 : Below N w w3 := B2.trans (hbw.mono (by omega))
      go_wp2
      go_ret
      exact ⟨ret_bool (by rw [HQ.out]; simp), B3⟩

set_option maxRecDepth 100000 in
set_option maxHeartbeats 3200000 in
theorem refLooseR_calls (t : Rw) : ∀ (m : Nat) (ok : Nat → Prop) (sb sl : Value) (w : World), Holds w ok t.ty.args sb → HoldsR w ok t.kids sl → t.size ≤ 1000000 → m + t.size ≤ 1000000 → t.rng →
    Calls Try.prog 16 #[rwv t.kind sb t.ty.base t.idx sl, .int .i64 (m : Int)] w fun e w' => e = .returned (.int .i64 (t.loose m : Int)) ∧ Below w.heap.size w w' := by
  induction t using Rw.ind with
  | h t ih =>
  intro m ok sb sl w hb ha hsz hm hrg
  rw [t.rng_eq] at hrg
  obtain ⟨hrk, hri, hrr⟩ := hrg
  obtain ⟨ts, hts⟩ : ∃ ts, t.kids = ts := ⟨_, rfl⟩
  have hsz2 := t.size_eq
  have hlo := t.loose_eq m
  rw [hts] at ha ih hsz2 hlo hrr
  obtain ⟨x1, x2, rfl, _⟩ := hb.shape
  generalize t.ty.args.length = bn at *
  obtain ⟨a, cap, rfl, hcap, hat⟩ := ha.shape
  have HA : Hid _ := hat
  have HIH : Hid _ := ih
  have HLO : Hid _ := hlo
  have HSZ : Hid _ := hsz2
  have hln := sizeR_length ts
  have hkl : ts.length ≤ 1000000 := by omega
  obtain ⟨N, hN⟩ : ∃ N, w.heap.size = N := ⟨_, rfl⟩
  have HN : Hid (w.heap.size = N) := hN
  obtain ⟨K, hK⟩ : ∃ K, t.kind = K := ⟨_, rfl⟩
  obtain ⟨I, hI⟩ : ∃ I, t.idx = I := ⟨_, rfl⟩
  rw [hK, hI] at HLO
  rw [hK] at hrk
  rw [hI] at hri
  rw [hK, hI, hN]
  obtain ⟨W, hW⟩ : ∃ W, w.alloc (.cells #[.int .i64 K, .slice x1 bn x2, .int .i64 t.ty.base, .int .i64 I, .slice a ts.length cap] 27) = W := ⟨_, rfl⟩
  have b0 : Blk W N 27 #[.int .i64 K, .slice x1 bn x2, .int .i64 t.ty.base, .int .i64 I, .slice a ts.length cap] := by rw [← hW]; exact Blk.new' w N 27 _ hN
  have bl0 : Below N w W := by rw [← hW]; exact (Below.refl N w).alloc (by omega) _
  have HW : Hid _ := hW
  have c0 := b0.cell 0
  have c2 := b0.cell 3
  have l0 := b0.lt
  obtain ⟨L, hL⟩ : ∃ L, t.loose m = L := ⟨_, rfl⟩
  rw [hL] at HLO ⊢
  clear hW hat ha hb ih hts hsz2 hlo hln hK hI hL
  by_cases h0 : K = 0
  · subst h0
    have HL : Hid (L = farR I m) := HLO.out
    clear HLO
    by_cases hlt : I < (m : Int)
    · have z : decide (I < (m : Int)) = true := by simp; omega
      have HZ : Hid (L = 0) := by show _ = _; rw [HL.out]; unfold farR; rw [if_pos hlt]
      go_enter Try.func16, Try.ntmps16
      go_upto_region 1 with fail
      rw [HW.out]
      clear HW hN
      go_wp2
      go_ret
      exact ⟨ret_int (by rw [HZ.out]; rfl), bl0⟩
    · have z : decide (I < (m : Int)) = false := by simp; omega
      have HZ : Hid ((L : Int) = min (I - m) 1000 + 1) := by show _ = _; rw [HL.out]; unfold farR; rw [if_neg hlt]; omega
      have hw := fits_sub (i := I) (b := (m : Int)) (by omega) (by omega) (by omega)
      go_enter Try.func16, Try.ntmps16
      go_upto_region 1 with fail
      rw [HW.out]
      clear HW hN
      go_wp2
      all_goals
        go_ret
        exact ⟨ret_int (by rw [HZ.out]; go_num), bl0⟩
  · have z0 : (K == 0) = false := by simp [h0]
    have HL : Hid (L = looseR (inR K m) ts) := by show _ = _; rw [HLO.out, if_neg h0]
    have hin : inR K m ≤ m + 1 := by unfold inR; split <;> omega
    have HIN : Hid (inR K m = if K = 3 then m + 1 else m) := rfl
    generalize inR K m = M at *
    clear HLO h0
    by_cases h3 : K = 3
    · have HM : Hid ((M : Int) = m + 1) := by show _ = _; rw [HIN.out, if_pos h3]; omega
      subst h3
      clear HIN
      have hmw : IntKind.i64.wrap ((m : Int) + 1) = M := by rw [HM.out, IntKind.wrap_i64]; omega
      go_enter Try.func16, Try.ntmps16
      go_upto_region 1 with fail
      rw [HW.out]
      clear HW hN
      go_wp2_with fail
      go_loopw [6, 7] (fun y i wr => ∃ k : Nat, k ≤ ts.length ∧ i = .int .i64 k ∧ y = .int .i64 ((looseR M (ts.take k) : Nat) : Int) ∧ looseR M (ts.take k) ≤ 1001 ∧ Blk wr N 27 #[.int .i64 3, .slice x1 bn x2, .int .i64 t.ty.base, .int .i64 I, .slice a ts.length cap] ∧ Below N w wr)
        (fun _ i _ => ts.length - (intOf i).toNat)
      case atStart => exact ⟨0, Nat.zero_le _, rfl, by simp [looseR], by simp [looseR], b0, bl0⟩
      case round =>
        clear b0 bl0 c0 c2
        obtain ⟨k, hk, rfl, rfl, hle, hb, hbl⟩ := hrel
        have r0 := hb.cell 4
        by_cases hlt : k < ts.length
        · obtain ⟨u, hu⟩ : ∃ u, ts[k]? = some u := ⟨_, List.getElem?_eq_getElem hlt⟩
          obtain ⟨g, o, s, r, rfl, _, hg, a0, a1, a2, a3, a4, hs, hr⟩ := HA.out k u hu
          rw [HN.out] at hg
          obtain ⟨sa, sc, rfl, _⟩ := hs.shape
          obtain ⟨sd, se, rfl, _⟩ := hr.shape
          have q0 := (cat hbl hg).trans a0
          have q1 := (cat hbl hg).trans a1
          have q2 := (cat hbl hg).trans a2
          have q3 := (cat hbl hg).trans a3
          have q4 := (cat hbl hg).trans a4
          have hm' := List.mem_of_getElem? hu
          have hus := rsize_mem hm'
          have hul := u.loose_le M
          have hS : Hid (looseR M (ts.take (k + 1)) = max (looseR M (ts.take k)) (u.loose M)) := looseR_take hu
          generalize u.ty.args.length = n1 at *
          generalize u.kids.length = n2 at *
          generalize looseR M (ts.take k) = y at *
          have y1 : (0 : Int) ≤ (k : Int) := by omega
          have y2 : (k : Int) < (ts.length : Int) := by omega
          have hcall := HIH.out u hm' M ok _ _ wr (hs.bel (by rw [HN.out]; exact hbl)) (hr.bel (by rw [HN.out]; exact hbl)) (by have := HSZ.out; omega) (by have := HSZ.out; omega) (rngR_mem hrr hm')
          generalize u.loose M = ul at *
          clear a0 a1 a2 a3 a4 hu hs hr
          go_wp2_with (go_at_call 16; refine hcall.mono ?_; rintro e w3 ⟨rfl, hb3⟩)
          all_goals
            go_roundw
            case rel => exact ⟨k + 1, by omega, by go_num, by rw [hS.out]; go_num, by rw [hS.out]; omega, hb.below hb3 hb.lt, hbl.trans (hb3.mono (by have := hb.lt; omega))⟩
            case measure => simp [intOf]; omega
        · obtain rfl : k = ts.length := by omega
          rw [List.take_length]
          go_wp2
          go_ret
          exact ⟨ret_int (by rw [HL.out]), hbl⟩
    · have HM : Hid ((m : Int) = M) := by show _ = _; rw [HIN.out, if_neg h3]
      clear HIN
      have z3 : (K == 3) = false := by simp [h3]
      clear h3
      have HMN : Hid (m = M) := by have := HM.out; show _ = _; omega
      go_enter Try.func16, Try.ntmps16
      go_upto_region 1 with fail
      rw [HW.out]
      clear HW hN
      obtain rfl := HMN.out
      go_wp2_with fail
      go_loopw [6, 7] (fun y i wr => ∃ k : Nat, k ≤ ts.length ∧ i = .int .i64 k ∧ y = .int .i64 ((looseR m (ts.take k) : Nat) : Int) ∧ looseR m (ts.take k) ≤ 1001 ∧ Blk wr N 27 #[.int .i64 K, .slice x1 bn x2, .int .i64 t.ty.base, .int .i64 I, .slice a ts.length cap] ∧ Below N w wr)
        (fun _ i _ => ts.length - (intOf i).toNat)
      case atStart => exact ⟨0, Nat.zero_le _, rfl, by simp [looseR], by simp [looseR], b0, bl0⟩
      case round =>
        clear b0 bl0 c0 c2
        obtain ⟨k, hk, rfl, rfl, hle, hb, hbl⟩ := hrel
        have r0 := hb.cell 4
        by_cases hlt : k < ts.length
        · obtain ⟨u, hu⟩ : ∃ u, ts[k]? = some u := ⟨_, List.getElem?_eq_getElem hlt⟩
          obtain ⟨g, o, s, r, rfl, _, hg, a0, a1, a2, a3, a4, hs, hr⟩ := HA.out k u hu
          rw [HN.out] at hg
          obtain ⟨sa, sc, rfl, _⟩ := hs.shape
          obtain ⟨sd, se, rfl, _⟩ := hr.shape
          have q0 := (cat hbl hg).trans a0
          have q1 := (cat hbl hg).trans a1
          have q2 := (cat hbl hg).trans a2
          have q3 := (cat hbl hg).trans a3
          have q4 := (cat hbl hg).trans a4
          have hm' := List.mem_of_getElem? hu
          have hus := rsize_mem hm'
          have hul := u.loose_le m
          have hS : Hid (looseR m (ts.take (k + 1)) = max (looseR m (ts.take k)) (u.loose m)) := looseR_take hu
          generalize u.ty.args.length = n1 at *
          generalize u.kids.length = n2 at *
          generalize looseR m (ts.take k) = y at *
          have y1 : (0 : Int) ≤ (k : Int) := by omega
          have y2 : (k : Int) < (ts.length : Int) := by omega
          have hcall := HIH.out u hm' m ok _ _ wr (hs.bel (by rw [HN.out]; exact hbl)) (hr.bel (by rw [HN.out]; exact hbl)) (by have := HSZ.out; omega) (by have := HSZ.out; omega) (rngR_mem hrr hm')
          generalize u.loose m = ul at *
          clear a0 a1 a2 a3 a4 hu hs hr
          go_wp2_with (go_at_call 16; refine hcall.mono ?_; rintro e w3 ⟨rfl, hb3⟩)
          all_goals
            go_roundw
            case rel => exact ⟨k + 1, by omega, by go_num, by rw [hS.out]; go_num, by rw [hS.out]; omega, hb.below hb3 hb.lt, hbl.trans (hb3.mono (by have := hb.lt; omega))⟩
            case measure => simp [intOf]; omega
        · obtain rfl : k = ts.length := by omega
          rw [List.take_length]
          go_wp2
          go_ret
          exact ⟨ret_int (by rw [HL.out]), hbl⟩

end Go.Proofs.Ytckagmagjogmnaa
