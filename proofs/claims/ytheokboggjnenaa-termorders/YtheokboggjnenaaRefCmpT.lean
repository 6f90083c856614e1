/-
  The contract of the document's Compare of terms.
-/
import Derived.Test.YtheokboggjnenaaOrdT
import Derived.Test.YtheokboggjnenaaSizeT
import Derived.Test.YtheokboggjnenaaKnownT
namespace Go.Proofs.Ytheokboggjnenaa
open Go Go.RowKit Go.Sort

/-- Compare's own word of one term -/
def RefCmpAt (t : Tm) : Prop := ∀ (t' : Tm) (sb sl sb' sl' : Value) (w : World), Holds w okT t.binds sb → HoldsT w okT t.args sl → Holds w okT t'.binds sb' → HoldsT w okT t'.args sl' → t.total ≤ 900000 → t'.total ≤ 900000 →
    Calls Try.prog 29 #[tmv sb t.kind t.idx sl, tmv sb' t'.kind t'.idx sl'] w fun e w' => e = .returned (.int .i64 (t.cmp t')) ∧ Below w.heap.size w w'

set_option maxRecDepth 100000 in
set_option maxHeartbeats 1600000 in
theorem refCompareT_calls (t : Tm) : RefCmpAt t := by
  induction t using Tm.ind with
  | h t ih =>
  intro t' sb sl sb' sl' w hb hh hb' hh' hsz hsz'
  have htot := t.total_eq
  have htot' := t'.total_eq
  have hbl1 : t.binds.length ≤ 900000 := by have := sizeL_length t.binds; omega
  have hal1 : t.args.length ≤ 900000 := by have := totalT_length t.args; omega
  have HC : Hid _ := t.cmp_eq t'
  obtain ⟨K, hK⟩ : ∃ K, t.cmp t' = K := ⟨_, rfl⟩
  rw [hK] at HC ⊢
  clear hK
  obtain ⟨x1, x2, rfl, _, hatb⟩ := hb.shape
  obtain ⟨x3, x4, rfl, _, hatb'⟩ := hb'.shape
  obtain ⟨a, cap, rfl, _, hat⟩ := hh.shape
  obtain ⟨a', cap', rfl, _, hat'⟩ := hh'.shape
  have HAB : Hid _ := hatb
  have HAB' : Hid _ := hatb'
  have HA : Hid _ := hat
  have HA' : Hid _ := hat'
  clear hat hat' hatb hatb'
  obtain ⟨bn, hbn⟩ : ∃ n, t.binds.length = n := ⟨_, rfl⟩
  obtain ⟨bn', hbn'⟩ : ∃ n, t'.binds.length = n := ⟨_, rfl⟩
  obtain ⟨an, han⟩ : ∃ n, t.args.length = n := ⟨_, rfl⟩
  obtain ⟨an', han'⟩ : ∃ n, t'.args.length = n := ⟨_, rfl⟩
  rw [hbn] at hb hbl1 ⊢
  rw [hbn'] at hb' ⊢
  rw [han] at hh HC hal1 ⊢
  rw [han'] at hh' HC ⊢
  obtain ⟨B, hB⟩ : ∃ B, w.heap.size = B := ⟨_, rfl⟩
  rw [hB]
  obtain ⟨W0, hW0⟩ : ∃ W0, (w.alloc (.cells #[.slice x1 bn x2, .int .i64 t.kind, .int .i64 t.idx, .slice a an cap] 27)).alloc (.cells #[.slice x3 bn' x4, .int .i64 t'.kind, .int .i64 t'.idx, .slice a' an' cap'] 27) = W0 := ⟨_, rfl⟩
  have b0 : Blk W0 B 27 #[.slice x1 bn x2, .int .i64 t.kind, .int .i64 t.idx, .slice a an cap] := by rw [← hW0]; exact (Blk.new' w B 27 _ hB).alloc _
  have b1 : Blk W0 (B + 1) 27 #[.slice x3 bn' x4, .int .i64 t'.kind, .int .i64 t'.idx, .slice a' an' cap'] := by rw [← hW0]; exact Blk.new' _ (B + 1) 27 _ (by simp [hB])
  have bl0 : Below B w W0 := by rw [← hW0]; exact ((Below.refl B w).alloc (by omega) _).alloc (by simp; omega) _
  have hb0 := hb.bel (hB ▸ bl0)
  have hh0 := hh.bel (hB ▸ bl0)
  have hb0' := hb'.bel (hB ▸ bl0)
  have hh0' := hh'.bel (hB ▸ bl0)
  have hz0 : B ≤ W0.heap.size := by have := bl0.size; omega
  have HW : Hid _ := hW0
  have hfin : ∀ v, Cur W0 v → Below B w v := fun v hv => bl0.trans (Below.mono hv hz0)
  have FIN : Hid _ := hfin
  have hls := t.size_le_total
  have hls' := t'.size_le_total
  clear hW0 hb hh hb' hh' hfin
  have c0 := b0.cell 0
  have c1 := b0.cell 1
  have c2 := b0.cell 2
  have c3 := b0.cell 3
  have d0 := b1.cell 0
  have d1 := b1.cell 1
  have d2 := b1.cell 2
  have d3 := b1.cell 3
  have hK : ∀ v, Cur W0 v → v.cell? ⟨B, 0, none⟩ = some (.slice x1 bn x2) ∧ v.cell? ⟨B, 1, none⟩ = some (.int .i64 t.kind) ∧ v.cell? ⟨B, 2, none⟩ = some (.int .i64 t.idx) ∧ v.cell? ⟨B, 3, none⟩ = some (.slice a an cap) ∧ v.cell? ⟨B + 1, 0, none⟩ = some (.slice x3 bn' x4) ∧ v.cell? ⟨B + 1, 1, none⟩ = some (.int .i64 t'.kind) ∧ v.cell? ⟨B + 1, 2, none⟩ = some (.int .i64 t'.idx) ∧ v.cell? ⟨B + 1, 3, none⟩ = some (.slice a' an' cap') := fun v hv => ⟨hv.cell c0, hv.cell c1, hv.cell c2, hv.cell c3, hv.cell d0, hv.cell d1, hv.cell d2, hv.cell d3⟩
  have k15a : ∀ cur, Cur W0 cur → Calls Try.prog 15 #[tmv (.slice x1 bn x2) t.kind t.idx (.slice a an cap)] cur fun e w' => e = .returned (.int .i64 (t.size : Int)) ∧ Cur W0 w' := fun cur hc =>
    Calls.cur hc (refSizeT_calls t okT _ _ cur (hc.holds hb0) (hh0.bel hc) (by omega))
  have k15b : ∀ cur, Cur W0 cur → Calls Try.prog 15 #[tmv (.slice x3 bn' x4) t'.kind t'.idx (.slice a' an' cap')] cur fun e w' => e = .returned (.int .i64 (t'.size : Int)) ∧ Cur W0 w' := fun cur hc =>
    Calls.cur hc (refSizeT_calls t' okT _ _ cur (hc.holds hb0') (hh0'.bel hc) (by omega))
  have hcur := Cur.refl W0
  generalize hs1 : (t.size : Int) = s1 at *
  generalize hs2 : (t'.size : Int) = s2 at *
  go_enter Try.func29, Try.ntmps29
  go_upto_region 1 with fail
  rw [HW.out]
  clear HW
  go_region_held3 (fun v => v.cell? ⟨B, 0, none⟩ = some (.slice x1 bn x2) ∧ v.cell? ⟨B, 1, none⟩ = some (.int .i64 t.kind) ∧ v.cell? ⟨B, 2, none⟩ = some (.int .i64 t.idx) ∧ v.cell? ⟨B, 3, none⟩ = some (.slice a an cap) ∧ v.cell? ⟨B + 1, 0, none⟩ = some (.slice x3 bn' x4) ∧ v.cell? ⟨B + 1, 1, none⟩ = some (.int .i64 t'.kind) ∧ v.cell? ⟨B + 1, 2, none⟩ = some (.int .i64 t'.idx) ∧ v.cell? ⟨B + 1, 3, none⟩ = some (.slice a' an' cap'))
    (first | with_reducible exact hK _ (by first | with_reducible assumption | (with_reducible refine Cur.drew ?_; assumption)))
    (first
      | (go_at_call 15; refine (k15b _ i1).mono ?_; rintro e v2 ⟨rfl, i2⟩)
      | (go_at_call 15; refine (k15a _ (by first | with_reducible assumption | (with_reducible refine Cur.drew ?_; assumption))).mono ?_; rintro e v1 ⟨rfl, i1⟩)
      | (go_at_call 70; refine (sign06_calls _ _ _).mono ?_; rintro e v3 ⟨rfl, rfl⟩))
  clear k15a k15b
  obtain ⟨p, hp⟩ : ∃ p, sgn s1 s2 = p := ⟨_, rfl⟩
  rw [hp]
  by_cases hp0 : p = 0
  · subst hp0
    have hse : ¬ t.size ≠ t'.size := fun h => h (by have := (sgn_zero _ _).1 hp; omega)
    have HC2 : Hid _ := (HC.out.trans (if_neg hse))
    clear HC hse hp
    obtain ⟨f0, f1, f2, f3, f4, f5, f6, f7⟩ := hK _ i2
    go_wp2_with fail
    refine (sign06_calls _ _ _).mono ?_
    rintro e v4 ⟨rfl, rfl⟩
    clear f0 f1 f2 f3 f4 f5 f6 f7
    obtain ⟨q, hq⟩ : ∃ q, sgn (bn : Int) (bn' : Int) = q := ⟨_, rfl⟩
    rw [hq]
    have HCA : Hid (cmpAllL t.binds t'.binds = if bn ≠ bn' then sgn bn bn' else cmpL t.binds t'.binds 0) := by show _ = _; rw [← hbn, ← hbn']; rfl
    obtain ⟨K2, hK2⟩ : ∃ k, cmpAllL t.binds t'.binds = k := ⟨_, rfl⟩
    rw [hK2] at HC2 HCA
    clear hK2
    by_cases hq0 : q = 0
    · have hbb : bn = bn' := by rw [hq0] at hq; have := (sgn_zero _ _).1 hq; omega
      have HCL : Hid (cmpL t.binds t'.binds 0 = K2) := by show _ = _; rw [HCA.out, if_neg (by omega)]
      subst hq0
      clear hq HCA
      subst hbb
      go_wp2_with fail
      go_loopw [5, 6] (fun s i wr => ∃ (j : Nat) (c : Int), j ≤ bn ∧ i = .int .i64 j ∧ s = .int .i64 c ∧ Hid (c ≠ 0 → c = K2) ∧ Hid (c = 0 → cmpL (t.binds.drop j) (t'.binds.drop j) 0 = K2) ∧ Cur W0 wr) (fun _ i _ => bn - (intOf i).toNat)
      case atStart => exact ⟨0, 0, Nat.zero_le _, rfl, rfl, fun h => absurd rfl h, fun _ => HCL.out, i2⟩
      case round =>
        obtain ⟨j, c, hj, rfl, rfl, H1, H2, hcr⟩ := hrel
        obtain ⟨f0, f1, f2, f3, f4, f5, f6, f7⟩ := hK _ hcr
        by_cases hc0 : c = 0
        · subst hc0
          by_cases hlt : j < bn
          · obtain ⟨u, hu⟩ : ∃ u, t.binds[j]? = some u := ⟨_, List.getElem?_eq_getElem (by rw [hbn]; exact hlt)⟩
            obtain ⟨v, hv9⟩ : ∃ v, t'.binds[j]? = some v := ⟨_, List.getElem?_eq_getElem (by rw [hbn']; exact hlt)⟩
            obtain ⟨g, o, s, rfl, _, hg, a0, a1, hs⟩ := HAB.out j u hu
            obtain ⟨g', o', s', rfl, _, hg', e0, e1, hs'⟩ := HAB'.out j v hv9
            rw [hB] at hg hg'
            have hbl := FIN.out _ hcr
            have q0 := fun d os => cell_regrown ((cat hbl hg).trans a0) d os
            have q1 := fun d os => cell_regrown ((cat hbl hg).trans a1) d os
            have p0 := fun d os => cell_regrown ((cat hbl hg').trans e0) d os
            have p1 := fun d os => cell_regrown ((cat hbl hg').trans e1) d os
            have m0 := fun d os => cell_regrown f0 d os
            have m4 := fun d os => cell_regrown f4 d os
            have hm := size_mem (List.mem_of_getElem? hu)
            have hm' := size_mem (List.mem_of_getElem? hv9)
            have y1 : (0 : Int) ≤ (j : Int) := by omega
            have y2 : (j : Int) < (bn : Int) := by omega
            have hj1 : Hid (j + 1 ≤ bn) := hlt
            have hj2 : Hid (bn - (j + 1) < bn - j) := by show _ < _; omega
            have hs2 := hs.bel (hB ▸ hbl)
            have hs2' := hs'.bel (hB ▸ hbl)
            have HD : Hid _ := cmpL_drop hu hv9 0
            obtain ⟨r, hr⟩ : ∃ r, u.cmp v = r := ⟨_, rfl⟩
            rw [hr] at HD
            have CC : Hid (∀ d os, Calls Try.prog 71 #[tv s u.base, tv s' v.base] (grow (redrawn wr d) os) fun e w'' => e = .returned (.int .i64 r) ∧ ∃ p : Regrown, w'' = grow (redrawn wr p.d) p.os) := fun d os =>
              Calls.regrown_of (by rw [← hr]; exact refCompare_calls u v okT s s' _ (hs2.bel (below_regrown wr d os)) (hs2'.bel (below_regrown wr d os)) (by omega) (by omega))
            have HN1 : Hid (r ≠ 0 → r = K2) := fun h => by rw [← H2.out rfl, HD.out, if_pos h]
            have HN2 : Hid (r = 0 → cmpL (t.binds.drop (j + 1)) (t'.binds.drop (j + 1)) 0 = K2) := fun h => by rw [← H2.out rfl, HD.out, if_neg (by simpa using h)]
            clear a0 a1 e0 e1 hu hv9 hs hs' hs2 hs2' hr HD
            go_upto_region 7 with fail
            refine wp_region_quiet_below (by kernel_rfl) (by kernel_rfl) ?_
            repeat (go_big_quiet_step ((go_at_call 71; exact CC.out _ _)))
            refine wpQuiet_nil ?_
            intro w2 hw'
            obtain ⟨q, hw''⟩ := hw'
            have hb2 : Below wr.heap.size wr w2 := by rw [hw'']; exact below_regrown _ _ _
            clear hw'' q q0 q1 p0 p1 m0 m4 CC f0 f1 f2 f3 f4 f5 f6 f7
            have hc2 := hcr.then hb2
            go_wp2
            go_roundw
            case rel =>
              have hj3 := hj1.out
              exact ⟨j + 1, r, hj3, by go_num, rfl, HN1, HN2, hc2⟩
            case measure =>
              have hj3 := hj2.out
              simpa [intOf] using hj3
          · obtain rfl : j = bn := by omega
            have hk0 : K2 = 0 := by
              rw [← H2.out rfl, List.drop_eq_nil_of_le (by rw [hbn]; exact Nat.le_refl _)]
              simp [cmpL]
            have HC3 : Hid _ := HC2.out
            rw [hk0, if_neg (by simp)] at HC3
            clear HC2 H1 H2 HCL hk0
            go_wp2_with fail
            refine (sign06_calls _ _ _).mono ?_
            rintro e v5 ⟨rfl, rfl⟩
            obtain ⟨r, hr⟩ : ∃ r, sgn t.kind t'.kind = r := ⟨_, rfl⟩
            rw [hr] at HC3 ⊢
            clear hr
            by_cases hr0 : r = 0
            · subst hr0
              have HC4 : Hid _ := HC3.out
              rw [if_neg (by simp)] at HC4
              clear HC3
              go_wp2_with fail
              refine (sign06_calls _ _ _).mono ?_
              rintro e v6 ⟨rfl, rfl⟩
              obtain ⟨r, hr⟩ : ∃ r, sgn t.idx t'.idx = r := ⟨_, rfl⟩
              rw [hr] at HC4 ⊢
              clear hr
              by_cases hr0 : r = 0
              · subst hr0
                have HC5 : Hid _ := HC4.out
                rw [if_neg (by simp)] at HC5
                clear HC4
                go_wp2_with fail
                refine (sign06_calls _ _ _).mono ?_
                rintro e v7 ⟨rfl, rfl⟩
                obtain ⟨r, hr⟩ : ∃ r, sgn (an : Int) (an' : Int) = r := ⟨_, rfl⟩
                rw [hr]
                by_cases hr0 : r = 0
                · have haa : an = an' := by rw [hr0] at hr; have := (sgn_zero _ _).1 hr; omega
                  have HC6 : Hid (K = cmpT t.args t'.args) := by show _ = _; rw [HC5.out, if_neg (by omega)]
                  subst hr0
                  clear hr HC5
                  subst haa
                  go_wp2_with fail
                  go_loopw [5, 7] (fun s i wr => ∃ (j : Nat) (c : Int), j ≤ an ∧ i = .int .i64 j ∧ s = .int .i64 c ∧ Hid (c ≠ 0 → c = K) ∧ Hid (c = 0 → cmpT (t.args.drop j) (t'.args.drop j) = K) ∧ Cur W0 wr) (fun _ i _ => an - (intOf i).toNat)
                  case atStart => exact ⟨0, 0, Nat.zero_le _, rfl, rfl, fun h => absurd rfl h, fun _ => HC6.out.symm, by assumption⟩
                  case round =>
                    clear hcr f0 f1 f2 f3 f4 f5 f6 f7
                    obtain ⟨j, c, hj, rfl, rfl, H1, H2, hcr⟩ := hrel
                    obtain ⟨f0, f1, f2, f3, f4, f5, f6, f7⟩ := hK _ hcr
                    by_cases hc0 : c = 0
                    · subst hc0
                      by_cases hlt : j < an
                      · obtain ⟨u, hu⟩ : ∃ u, t.args[j]? = some u := ⟨_, List.getElem?_eq_getElem (by rw [han]; exact hlt)⟩
                        obtain ⟨v, hv9⟩ : ∃ v, t'.args[j]? = some v := ⟨_, List.getElem?_eq_getElem (by rw [han']; exact hlt)⟩
                        obtain ⟨g, o, s, s9, rfl, _, hg, a0, a1, a2, a3, hs, hs9⟩ := HA.out j u hu
                        obtain ⟨g', o', s', s9', rfl, _, hg', e0, e1, e2, e3, hs', hs9'⟩ := HA'.out j v hv9
                        rw [hB] at hg hg'
                        have hbl := FIN.out _ hcr
                        have q0 := fun d os => cell_regrown ((cat hbl hg).trans a0) d os
                        have q1 := fun d os => cell_regrown ((cat hbl hg).trans a1) d os
                        have q2 := fun d os => cell_regrown ((cat hbl hg).trans a2) d os
                        have q3 := fun d os => cell_regrown ((cat hbl hg).trans a3) d os
                        have p0 := fun d os => cell_regrown ((cat hbl hg').trans e0) d os
                        have p1 := fun d os => cell_regrown ((cat hbl hg').trans e1) d os
                        have p2 := fun d os => cell_regrown ((cat hbl hg').trans e2) d os
                        have p3 := fun d os => cell_regrown ((cat hbl hg').trans e3) d os
                        have m3 := fun d os => cell_regrown f3 d os
                        have m7 := fun d os => cell_regrown f7 d os
                        have hm := total_mem (List.mem_of_getElem? hu)
                        have hm' := total_mem (List.mem_of_getElem? hv9)
                        have y1 : (0 : Int) ≤ (j : Int) := by omega
                        have y2 : (j : Int) < (an : Int) := by omega
                        have hj2 : Hid (an - (j + 1) < an - j) := by show _ < _; omega
                        have hs2 := hs.bel (hB ▸ hbl)
                        have hs2' := hs'.bel (hB ▸ hbl)
                        have hs3 := hs9.bel (hB ▸ hbl)
                        have hs3' := hs9'.bel (hB ▸ hbl)
                        have HD : Hid _ := cmpT_drop hu hv9
                        have hihu := ih u (List.mem_of_getElem? hu)
                        obtain ⟨r, hr⟩ : ∃ r, u.cmp v = r := ⟨_, rfl⟩
                        rw [hr] at HD
                        have CC : Hid (∀ d os, Calls Try.prog 29 #[tmv s u.kind u.idx s9, tmv s' v.kind v.idx s9'] (grow (redrawn wr d) os) fun e w'' => e = .returned (.int .i64 r) ∧ ∃ p : Regrown, w'' = grow (redrawn wr p.d) p.os) := fun d os =>
                          Calls.regrown_of (by rw [← hr]; exact hihu v s s9 s' s9' _ (hs2.bel (below_regrown wr d os)) (hs3.bel (below_regrown wr d os)) (hs2'.bel (below_regrown wr d os)) (hs3'.bel (below_regrown wr d os)) (by omega) (by omega))
                        have HN1 : Hid (r ≠ 0 → r = K) := fun h => by rw [← H2.out rfl, HD.out, if_pos h]
                        have HN2 : Hid (r = 0 → cmpT (t.args.drop (j + 1)) (t'.args.drop (j + 1)) = K) := fun h => by rw [← H2.out rfl, HD.out, if_neg (by simpa using h)]
                        clear a0 a1 a2 a3 e0 e1 e2 e3 hu hv9 hs hs' hs9 hs9' hs2 hs2' hs3 hs3' hr HD hihu
                        go_upto_region 17 with fail
                        refine wp_region_quiet_below (by kernel_rfl) (by kernel_rfl) ?_
                        repeat (go_big_quiet_step ((go_at_call 29; exact CC.out _ _)))
                        refine wpQuiet_nil ?_
                        intro w2 hw'
                        obtain ⟨q, hw''⟩ := hw'
                        have hb2 : Below wr.heap.size wr w2 := by rw [hw'']; exact below_regrown _ _ _
                        clear hw'' q q0 q1 q2 q3 p0 p1 p2 p3 m3 m7 CC f0 f1 f2 f3 f4 f5 f6 f7
                        have hc2 := hcr.then hb2
                        go_wp2
                        go_roundw
                        case rel => exact ⟨j + 1, r, hlt, by go_num, rfl, HN1, HN2, hc2⟩
                        case measure =>
                          have hj3 := hj2.out
                          simpa [intOf] using hj3
                      · obtain rfl : j = an := by omega
                        have HK0 : Hid (0 = K) := by
                          show _ = _
                          rw [← H2.out rfl, List.drop_eq_nil_of_le (by rw [han]; exact Nat.le_refl _)]
                          simp [cmpT]
                        go_wp2
                        go_ret
                        exact ⟨ret_int HK0.out, FIN.out _ hcr⟩
                    · have z9 : (c == 0) = false := by simp [hc0]
                      have HK0 : Hid (c = K) := H1.out hc0
                      clear hc0 H1 H2
                      go_wp2
                      go_ret
                      exact ⟨ret_int HK0.out, FIN.out _ hcr⟩
                · have z9 : (r == 0) = false := by simp [hr0]
                  have HKC : Hid (r = K) := by show _ = _; rw [HC5.out, if_pos (fun e => hr0 (by rw [← hr, e]; exact sgn_self _)), hr]
                  clear hr hr0 HC5
                  go_wp2_with fail
                  go_loopw [5, 7] (fun s i wr => s = .int .i64 r ∧ i = .int .i64 0 ∧ Cur W0 wr) (fun _ _ _ => 1)
                  case atStart => exact ⟨rfl, rfl, by assumption⟩
                  case round =>
                    obtain ⟨rfl, rfl, hcz⟩ := hrel
                    go_wp2
                    go_ret
                    exact ⟨ret_int HKC.out, FIN.out _ hcz⟩
              · have z9 : (r == 0) = false := by simp [hr0]
                have HKC : Hid (r = K) := by show _ = _; rw [HC4.out, if_pos hr0]
                clear hr0 HC4
                go_wp2_with fail
                go_loopw [5, 7] (fun s i wr => s = .int .i64 r ∧ i = .int .i64 0 ∧ Cur W0 wr) (fun _ _ _ => 1)
                case atStart => exact ⟨rfl, rfl, by assumption⟩
                case round =>
                  obtain ⟨rfl, rfl, hcz⟩ := hrel
                  go_wp2
                  go_ret
                  exact ⟨ret_int HKC.out, FIN.out _ hcz⟩
            · have z9 : (r == 0) = false := by simp [hr0]
              have HKC : Hid (r = K) := by show _ = _; rw [HC3.out, if_pos hr0]
              clear hr0 HC3
              go_wp2_with fail
              go_loopw [5, 7] (fun s i wr => s = .int .i64 r ∧ i = .int .i64 0 ∧ Cur W0 wr) (fun _ _ _ => 1)
              case atStart => exact ⟨rfl, rfl, by assumption⟩
              case round =>
                obtain ⟨rfl, rfl, hcz⟩ := hrel
                go_wp2
                go_ret
                exact ⟨ret_int HKC.out, FIN.out _ hcz⟩
        · have z9 : (c == 0) = false := by simp [hc0]
          have HKC : Hid (c = K) := by
            show _ = _
            have h9 := H1.out hc0
            rw [HC2.out, ← h9, if_pos hc0]
          clear hc0 H1 H2 HC2 HCL
          go_wp2_with fail
          go_loopw [5, 7] (fun s i wr => s = .int .i64 c ∧ i = .int .i64 0 ∧ Cur W0 wr) (fun _ _ _ => 1)
          case atStart => exact ⟨rfl, rfl, by assumption⟩
          case round =>
            obtain ⟨rfl, rfl, hcz⟩ := hrel
            go_wp2
            go_ret
            exact ⟨ret_int HKC.out, FIN.out _ hcz⟩
    · have z1 : (q == 0) = false := by simp [hq0]
      have HKC : Hid (q = K) := by
        show _ = _
        have hne : bn ≠ bn' := fun e => hq0 (by rw [← hq, e]; exact sgn_self _)
        have h9 : K2 = q := by rw [HCA.out, if_pos hne, hq]
        rw [HC2.out, h9, if_pos hq0]
      clear hq hq0 HC2 HCA
      go_wp2_with fail
      go_loopw [5, 6] (fun s i wr => s = .int .i64 q ∧ i = .int .i64 0 ∧ Cur W0 wr) (fun _ _ _ => 1)
      case atStart => exact ⟨rfl, rfl, by assumption⟩
      case round =>
        obtain ⟨rfl, rfl, hcy⟩ := hrel
        go_wp2_with fail
        go_loopw [5, 7] (fun s i wr => s = .int .i64 q ∧ i = .int .i64 0 ∧ Cur W0 wr) (fun _ _ _ => 1)
        case atStart => exact ⟨rfl, rfl, by assumption⟩
        case round =>
          obtain ⟨rfl, rfl, hcz⟩ := hrel
          go_wp2
          go_ret
          exact ⟨ret_int HKC.out, FIN.out _ hcz⟩
  · have z1 : (p == 0) = false := by simp [hp0]
    have HKC : Hid (p = K) := by
      show _ = _
      rw [HC.out, if_pos (fun e => hp0 (by rw [← hp, ← hs1, ← hs2, e]; exact sgn_self _)), hp]
    clear hp hp0 HC
    go_wp2_with fail
    go_loopw [5, 6] (fun s i wr => s = .int .i64 p ∧ i = .int .i64 0 ∧ Cur W0 wr) (fun _ _ _ => 1)
    case atStart => exact ⟨rfl, rfl, by assumption⟩
    case round =>
      obtain ⟨rfl, rfl, hcy⟩ := hrel
      go_wp2_with fail
      go_loopw [5, 7] (fun s i wr => s = .int .i64 p ∧ i = .int .i64 0 ∧ Cur W0 wr) (fun _ _ _ => 1)
      case atStart => exact ⟨rfl, rfl, by assumption⟩
      case round =>
        obtain ⟨rfl, rfl, hcz⟩ := hrel
        go_wp2
        go_ret
        exact ⟨ret_int HKC.out, FIN.out _ hcz⟩

end Go.Proofs.Ytheokboggjnenaa
