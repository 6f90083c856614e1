/-
  The contract of term.isLong: whether a term is the long form of a head.
-/
import Derived.Test.YtheokboggjnenaaSameT
import Derived.Test.YtheokboggjnenaaEqK
import Derived.Test.YtheokboggjnenaaHeadsS
import Derived.Deep.DeepCutAuto
namespace Go.Proofs.Ytheokboggjnenaa
open Go Go.RowKit Go.Sort

/-- anywhere -/
abbrev okT : Nat → Prop := fun _ => True
theorem isEta_eq (t : Tm) (k i : Int) (ts : List Ty) : isEta t k i ts = (t.kind == k && t.idx == insI k i ts.length && sameL t.binds ts && sameT t.args (etaL ts)) := by
  unfold isEta
  rw [Tm.same_eq, etaK_kind, etaK_idx, etaK_binds, etaK_args]
theorem isEta_iff (t : Tm) (k i : Int) (ts : List Ty) : isEta t k i ts = true ↔ t = etaK k i ts := Tm.same_iff _ _

set_option maxRecDepth 100000 in
set_option maxHeartbeats 1600000 in
theorem isLong_calls (t : Tm) : ∀ (k i : Int) (ts : List Ty) (sb sr sl : Value) (w : World), Holds w okT t.binds sb → HoldsT w okT t.args sr → Holds w okT ts sl → t.total ≤ 1000000 → sizeL ts ≤ 1000000 → (k = 0 → -1000000000 ≤ i) → (k = 0 → i ≤ 9223372036854775807 - ts.length) →
    Calls Try.prog 89 #[tmv sb t.kind t.idx sr, hv k i, sl] w fun e w' => e = .returned (.bool (isEta t k i ts)) ∧ Below w.heap.size w w' := by
  induction t using Tm.ind with
  | h t ih =>
  intro k i ts sb sr sl w hb hr hh htt hts hk1 hk2
  have hse := isEta_eq t k i ts
  have htot := t.total_eq
  have hlt := sizeL_length ts
  have hla := totalT_length t.args
  have hlb := sizeL_length t.binds
  have hins := fun w => inside_calls k i ts.length (by omega) hk1 hk2 w
  obtain ⟨x, hx⟩ : ∃ x, insI k i ts.length = x := ⟨_, rfl⟩
  rw [hx] at hse
  simp only [hx] at hins
  have HL : Hid _ := hse
  obtain ⟨rs, hrs⟩ : ∃ rs, isEta t k i ts = rs := ⟨_, rfl⟩
  rw [hrs] at HL ⊢
  have HAL : Hid (∀ u ∈ t.args, u.total ≤ 1000000) := fun u hu => by have := total_mem hu; omega
  have HTL : Hid (∀ v ∈ ts, sizeL v.args ≤ 1000000 ∧ v.args.length ≤ 1000000) := fun v hv => by have h1 := size_mem hv; have h2 := v.size_eq; have h3 := sizeL_length v.args; omega
  have HIH : Hid _ := ih
  have HBS : Hid (∀ u ∈ t.binds, u.size ≤ 1000000) := fun u hu => by have := size_mem hu; omega
  obtain ⟨x1, x2, rfl, _⟩ := hb.shape
  obtain ⟨bn, hbn⟩ : ∃ bn, t.binds.length = bn := ⟨_, rfl⟩
  rw [hbn] at hb ⊢
  have hbl : t.binds.length ≤ 1000000 := by omega
  obtain ⟨us, hus⟩ : ∃ us, t.args = us := ⟨_, rfl⟩
  rw [hus] at hr HAL HIH HL hla htot
  obtain ⟨a, cap, rfl, hcap, hat⟩ := hr.shape
  have HA : Hid _ := hat
  obtain ⟨a', cap', rfl, hcap', hat'⟩ := hh.shape
  have HA' : Hid _ := hat'
  obtain ⟨B, hB⟩ : ∃ B, w.heap.size = B := ⟨_, rfl⟩
  have HB : Hid (w.heap.size = B) := hB
  obtain ⟨W0, hW0⟩ : ∃ W0, (w.alloc (.cells #[.slice x1 bn x2, .int .i64 t.kind, .int .i64 t.idx, .slice a us.length cap] 34)).alloc (.cells #[.int .i64 k, .int .i64 i] 31) = W0 := ⟨_, rfl⟩
  have b0 : Blk W0 B 34 #[.slice x1 bn x2, .int .i64 t.kind, .int .i64 t.idx, .slice a us.length cap] := by rw [← hW0]; exact (Blk.new' w B 34 _ hB).alloc _
  have b1 : Blk W0 (B + 1) 31 #[.int .i64 k, .int .i64 i] := by rw [← hW0]; exact Blk.new' _ (B + 1) 31 _ (by simp [hB])
  have bl0 : Below B w W0 := by rw [← hW0]; exact ((Below.refl B w).alloc (by omega) _).alloc (by simp; omega) _
  have hb0 := hb.bel (hB ▸ bl0)
  have hh0 := hh.bel (hB ▸ bl0)
  have HW : Hid _ := hW0
  rw [hB]
  have hlen1 : us.length ≤ 1000000 := by omega
  have hlen2 : ts.length ≤ 1000000 := by omega
  have hle0 : B ≤ W0.heap.size := by have := bl0.size; omega
  clear hat hat' hse hrs hW0 hx hk1 hk2 ih hbn hb hr hh hus hla hlb hlt hts htot htt
  have c0 := fun d os => cell_regrown (b0.cell 0) d os
  have c1 := fun d os => cell_regrown (b0.cell 1) d os
  have c2 := fun d os => cell_regrown (b0.cell 2) d os
  have c3 := fun d os => cell_regrown (b0.cell 3) d os
  have d0 := fun d os => cell_regrown (b1.cell 0) d os
  have d1 := fun d os => cell_regrown (b1.cell 1) d os
  have C115 : Hid (∀ d os, Calls Try.prog 115 #[hv k i, .int .i64 (ts.length : Int)] (grow (redrawn W0 d) os) fun e w'' => e = .returned (hv k x) ∧ ∃ p : Regrown, w'' = grow (redrawn W0 p.d) p.os) := fun d os => Calls.regrown_of (hins _)
  obtain ⟨r1, hr1⟩ : ∃ r, sameL t.binds ts = r := ⟨_, rfl⟩
  have C67 : Hid (∀ d os, Calls Try.prog 67 #[.slice x1 bn x2, .slice a' ts.length cap', .func (.func 68) #[] #[]] (grow (redrawn W0 d) os) fun e w'' => e = .returned (.bool r1) ∧ ∃ p : Regrown, w'' = grow (redrawn W0 p.d) p.os) := fun d os =>
    Calls.regrown_of (by rw [← hr1]; exact EqualFunc_calls t.binds ts okT _ _ _ (hb0.bel (below_regrown W0 d os)) (hh0.bel (below_regrown W0 d os)) hbl (fun u hu => Equal_calls u (HBS.out u hu)))
  rw [hr1] at HL
  clear hr1 hins hb0 hh0 hbl
  generalize t.kind = ka at *
  generalize t.idx = ia at *
  by_cases hk : ka = k
  · subst hk
    by_cases hi : ia = x
    · subst hi
      by_cases hle : us.length = ts.length
      · have z2 : ((us.length : Int) != (ts.length : Int)) = false := by simp [hle]
        have HLE : Hid (us.length = ts.length) := hle
        have HR : Hid (rs = (r1 && sameT us (etaL ts))) := by show _ = _; rw [HL.out]; simp
        clear HL hle
        cases r1 with
        | false =>
          go_enter Try.func89, Try.ntmps89
          go_upto_region 1 with fail
          rw [HW.out]
          clear HW
          refine wp_region_quiet_below (by kernel_rfl) (by kernel_rfl) ?_
          repeat (go_big_quiet_step (first | (go_at_call 115; exact C115.out _ _) | (go_at_call 67; exact C67.out _ _)))
          refine wpQuiet_nil ?_
          intro w1 hw'
          obtain ⟨q, hw''⟩ := hw'
          have hb1 : Below W0.heap.size W0 w1 := by rw [hw'']; exact below_regrown _ _ _
          clear hw'' q c0 c1 c2 c3 d0 d1 C115 C67
          go_wp2
          go_ret
          exact ⟨ret_bool (by rw [HR.out]; rfl), bl0.trans (hb1.mono hle0)⟩
        | true =>
          have HR3 : Hid (rs = sameT us (etaL ts)) := by show _ = _; rw [HR.out]; simp
          clear HR
          go_enter Try.func89, Try.ntmps89
          go_upto_region 1 with fail
          rw [HW.out]
          clear HW
          refine wp_region_quiet_below (by kernel_rfl) (by kernel_rfl) ?_
          repeat (go_big_quiet_step (first | (go_at_call 115; exact C115.out _ _) | (go_at_call 67; exact C67.out _ _)))
          refine wpQuiet_nil ?_
          intro w1 hw'
          obtain ⟨q, hw''⟩ := hw'
          have hb1 : Below W0.heap.size W0 w1 := by rw [hw'']; exact below_regrown _ _ _
          clear hw'' q c0 c1 c2 c3 d0 d1 C115 C67
          have k0 := b0.below hb1 b0.lt
          have B1 : Below B w w1 := bl0.trans (hb1.mono hle0)
          have r3 := k0.cell 3
          clear b0 b1 bl0 hb1 hle0
          go_wp2_with fail
          clear r3 k0
          go_loopw [34] (fun i wr => ∃ j : Nat, j ≤ us.length ∧ i = .int .i64 j ∧ Hid (us.take j = (etaL ts).take j) ∧ Below B w wr) (fun i _ => us.length - (intOf i).toNat)
          case atStart => exact ⟨0, Nat.zero_le _, rfl, rfl, B1⟩
          case round =>
            obtain ⟨j, hj, rfl, HF, hbl⟩ := hrel
            by_cases hlt : j < us.length
            · obtain ⟨u, hu⟩ : ∃ u, us[j]? = some u := ⟨_, List.getElem?_eq_getElem hlt⟩
              have hlt' : j < ts.length := by have := HLE.out; omega
              obtain ⟨v, hv0⟩ : ∃ v, ts[j]? = some v := ⟨_, List.getElem?_eq_getElem hlt'⟩
              obtain ⟨g, o, s, r, rfl, _, hg, a0, a1, a2, a3, hs, hsr⟩ := HA.out j u hu
              obtain ⟨g', o', s', rfl, _, hg', e0, e1, hs'⟩ := HA'.out j v hv0
              rw [HB.out] at hg hg'
              have q0 := (cat hbl hg).trans a0
              have q1 := (cat hbl hg).trans a1
              have q2 := (cat hbl hg).trans a2
              have q3 := (cat hbl hg).trans a3
              have hm := List.mem_of_getElem? hu
              have hm' := List.mem_of_getElem? hv0
              have y1 : (0 : Int) ≤ (j : Int) := by omega
              have y2 : (j : Int) < (us.length : Int) := by omega
              have y3 : (j : Int) < (ts.length : Int) := by omega
              have HU : Hid (us[j]? = some u) := hu
              have HV : Hid (ts[j]? = some v) := hv0
              have hs2 := hs.bel (HB.out ▸ hbl)
              have hsr2 := hsr.bel (HB.out ▸ hbl)
              have hs2' := hs'.bel (HB.out ▸ hbl)
              obtain ⟨s1, s2, rfl, _⟩ := hs.shape
              obtain ⟨s3, s4, rfl, _⟩ := hsr.shape
              obtain ⟨s5, s6, rfl, _⟩ := hs'.shape
              generalize u.binds.length = un at *
              generalize u.args.length = um at *
              obtain ⟨vn, hvn⟩ : ∃ vn, v.args.length = vn := ⟨_, rfl⟩
              rw [hvn] at hs' hs2' e0
              obtain ⟨X, hX⟩ : ∃ X, wr.heap.size = X := ⟨_, rfl⟩
              obtain ⟨wx, hwx⟩ : ∃ wx, wr.alloc (.cells #[.slice s1 un s2, .int .i64 u.kind, .int .i64 u.idx, .slice s3 um s4] 34) = wx := ⟨_, rfl⟩
              have bx : Blk wx X 34 #[.slice s1 un s2, .int .i64 u.kind, .int .i64 u.idx, .slice s3 um s4] := by rw [← hwx]; exact Blk.new' wr X 34 _ hX
              have hbx : Below wr.heap.size wr wx := by rw [← hwx]; exact (Below.refl _ _).alloc (Nat.le_refl _) _
              have hblx : Below B w wx := hbl.trans (hbx.mono (by have := hbl.size; omega))
              have hsx := hs2.bel hbx
              have hsrx := hsr2.bel hbx
              have hsx' := hs2'.bel hbx
              have p0 := fun d os => cell_regrown ((cat hblx hg').trans e0) d os
              have w0 := fun d os => cell_regrown (bx.cell 0) d os
              have w1' := fun d os => cell_regrown (bx.cell 1) d os
              have w2' := fun d os => cell_regrown (bx.cell 2) d os
              have w3' := fun d os => cell_regrown (bx.cell 3) d os
              obtain ⟨r9, hr9⟩ : ∃ r9, isEta u 0 ((ts.length : Int) - 1 - j) v.args = r9 := ⟨_, rfl⟩
              have HR9 : Hid (isEta u 0 ((ts.length : Int) - 1 - j) v.args = r9) := hr9
              have C116 : Hid (∀ d os, Calls Try.prog 116 #[.int .i64 j, .slice (some ⟨g', o', none⟩) ts.length cap'] (grow (redrawn wx d) os) fun e w'' => e = .returned (hv 0 ((ts.length : Int) - 1 - j)) ∧ ∃ p : Regrown, w'' = grow (redrawn wx p.d) p.os) := fun d os => Calls.regrown_of (variable_calls j ts.length _ cap' hlt' hlen2 _)
              have C89 : Hid (∀ d os, Calls Try.prog 89 #[tmv (.slice s1 un s2) u.kind u.idx (.slice s3 um s4), hv 0 ((ts.length : Int) - 1 - j), .slice s5 vn s6] (grow (redrawn wx d) os) fun e w'' => e = .returned (.bool r9) ∧ ∃ p : Regrown, w'' = grow (redrawn wx p.d) p.os) := fun d os =>
                Calls.regrown_of (by
                  have h2 := HTL.out v hm'
                  rw [← hr9]
                  exact HIH.out u hm 0 _ v.args _ _ _ _ (hsx.bel (below_regrown wx d os)) (hsrx.bel (below_regrown wx d os)) (hsx'.bel (below_regrown wx d os)) (HAL.out u hm) h2.1 (fun _ => by omega) (fun _ => by omega))
              have HWX : Hid _ := hwx
              clear a0 a1 a2 a3 e0 e1 hu hv0 hs hsr hs' hs2 hsr2 hs2' hwx hr9 hvn hsx hsrx hsx'
              go_upto_region 6 with fail
              rw [HWX.out]
              clear HWX q0 q1 q2 q3
              refine wp_region_quiet_below (by kernel_rfl) (by kernel_rfl) ?_
              repeat (go_big_quiet_step (first | (go_at_call 116; exact C116.out _ _) | (go_at_call 89; exact C89.out _ _)))
              refine wpQuiet_nil ?_
              intro w2 hw'
              obtain ⟨q, hw''⟩ := hw'
              have hb2 : Below wx.heap.size wx w2 := by rw [hw'']; exact below_regrown _ _ _
              clear hw'' q p0 w0 w1' w2' w3' C116 C89
              have hB2 : Below B w w2 := hblx.trans (hb2.mono (by have := hblx.size; omega))
              cases r9 with
              | false =>
                have HN : Hid (rs = false) := by
                  show _ = _
                  rw [HR3.out]
                  refine sameT_no us (etaL ts) j u _ HU.out (etaL_get ts j v HV.out) ?_
                  exact HR9.out
                go_wp2
                go_ret
                exact ⟨ret_bool HN.out.symm, hB2⟩
              | true =>
                have HF2 : Hid (us.take (j + 1) = (etaL ts).take (j + 1)) := by
                  show _ = _
                  rw [etaL_take ts j v HV.out, List.take_add_one, HU.out, HF.out, (isEta_iff u _ _ _).1 HR9.out]
                  rfl
                go_wp2
                go_roundw
                case rel => exact ⟨j + 1, by omega, by go_num, HF2, hB2⟩
                case measure => simp [intOf]; omega
            · obtain rfl : j = us.length := by omega
              have HY : Hid (rs = true) := by
                show _ = _
                rw [HR3.out, sameT_iff']
                have h := HF.out
                rw [List.take_length, HLE.out, ← etaL_length ts, List.take_length] at h
                exact h
              go_wp2
              go_ret
              exact ⟨ret_bool HY.out.symm, hbl⟩
      · have z2 : ((us.length : Int) != (ts.length : Int)) = true := by simp; omega
        have HR : Hid (rs = false) := by show _ = _; rw [HL.out, sameT_len _ _ (by rw [etaL_length]; exact hle)]; simp
        clear HL hle
        go_enter Try.func89, Try.ntmps89
        go_upto_region 1 with fail
        rw [HW.out]
        clear HW
        refine wp_region_quiet_below (by kernel_rfl) (by kernel_rfl) ?_
        repeat (go_big_quiet_step (first | (go_at_call 115; exact C115.out _ _) | (go_at_call 67; exact C67.out _ _)))
        refine wpQuiet_nil ?_
        intro w1 hw'
        obtain ⟨q, hw''⟩ := hw'
        have hb1 : Below W0.heap.size W0 w1 := by rw [hw'']; exact below_regrown _ _ _
        clear hw'' q c0 c1 c2 c3 d0 d1 C115 C67
        go_wp2
        go_ret
        exact ⟨ret_bool HR.out.symm, bl0.trans (hb1.mono hle0)⟩
    · have HR : Hid (rs = false) := by show _ = _; rw [HL.out]; simp [hi]
      clear HL
      go_enter Try.func89, Try.ntmps89
      go_upto_region 1 with fail
      rw [HW.out]
      clear HW
      refine wp_region_quiet_below (by kernel_rfl) (by kernel_rfl) ?_
      repeat (go_big_quiet_step (first | (go_at_call 115; exact C115.out _ _) | (go_at_call 67; exact C67.out _ _)))
      refine wpQuiet_nil ?_
      intro w1 hw'
      obtain ⟨q, hw''⟩ := hw'
      have hb1 : Below W0.heap.size W0 w1 := by rw [hw'']; exact below_regrown _ _ _
      clear hw'' q c0 c1 c2 c3 d0 d1 C115 C67
      go_wp2
      go_ret
      exact ⟨ret_bool HR.out.symm, bl0.trans (hb1.mono hle0)⟩
  · have HR : Hid (rs = false) := by show _ = _; rw [HL.out]; simp [hk]
    clear HL
    go_enter Try.func89, Try.ntmps89
    go_upto_region 1 with fail
    rw [HW.out]
    clear HW
    refine wp_region_quiet_below (by kernel_rfl) (by kernel_rfl) ?_
    repeat (go_big_quiet_step (first | (go_at_call 115; exact C115.out _ _) | (go_at_call 67; exact C67.out _ _)))
    refine wpQuiet_nil ?_
    intro w1 hw'
    obtain ⟨q, hw''⟩ := hw'
    have hb1 : Below W0.heap.size W0 w1 := by rw [hw'']; exact below_regrown _ _ _
    clear hw'' q c0 c1 c2 c3 d0 d1 C115 C67
    go_wp2
    go_ret
    exact ⟨ret_bool HR.out.symm, bl0.trans (hb1.mono hle0)⟩

end Go.Proofs.Ytheokboggjnenaa
