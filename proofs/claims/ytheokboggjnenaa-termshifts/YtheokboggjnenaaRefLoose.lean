/-
  The contracts of the document's looses, Looses and Loose.
-/
import Derived.Test.YtheokboggjnenaaSizesT
import Derived.Test.YtheokboggjnenaaRng
import Derived.Laws.AppendOwnNone
import Derived.Deep.DeepCutAuto
namespace Go.Proofs.Ytheokboggjnenaa
open Go Go.RowKit Go.Sort

theorem row_bel {w w' : World} {M : Nat} {e : TypeId} {sz : Nat} {v : Value} {n : Nat} {xs : List Value} (h : w.ownsRow M e sz v n xs) (hb : Below w.heap.size w w') : w'.ownsRow M e sz v n xs := by
  refine ⟨h.1, ?_⟩
  rcases h.2 with h2 | ⟨g, cap, cur, e1, e2, e3, e4⟩
  · exact .inl h2
  · refine .inr ⟨g, cap, cur, e1, e2, ?_, e4⟩
    have hlt : g < w.heap.size := (Array.getElem?_eq_some_iff.1 e3).1
    rw [hb.block g hlt]
    exact e3
theorem row_mono {w : World} {M M' : Nat} {e : TypeId} {sz : Nat} {v : Value} {n : Nat} {xs : List Value} (h : w.ownsRow M e sz v n xs) (hM : M' ≤ M) : w.ownsRow M' e sz v n xs := by
  refine ⟨h.1, ?_⟩
  rcases h.2 with h2 | ⟨g, cap, cur, e1, e2, e3⟩
  · exact .inl h2
  · exact .inr ⟨g, cap, cur, e1, Nat.le_trans hM e2, e3⟩
theorem one_ints (l : List Int) : ∀ u ∈ ints l, u.oneCell' = true := by
  intro u hu
  obtain ⟨x, _, rfl⟩ := List.mem_map.1 hu
  simp [Value.oneCell']

/-- The loose indexes. -/
def los (l : List Hd) : List Int := l.filterMap Hd.out
theorem los_append (a b : List Hd) : los (a ++ b) = los a ++ los b := List.filterMap_append
theorem los_cons (p : Hd) (r : List Hd) : los (p :: r) = (match p.out with | some i => [i] | none => []) ++ los r := by
  unfold los
  cases h : p.out with
  | none => simp [h]
  | some i => simp [h]
theorem los_length (l : List Hd) : (los l).length ≤ l.length := List.length_filterMap_le _ _
theorem Hd.out_eq (d b : Nat) (k i : Int) : (⟨d, b, k, i⟩ : Hd).out = if k = 0 ∧ (b : Int) ≤ i then some (i - b) else none := rfl
theorem headsT_take2 {d b : Nat} {ts : List Tm} {k : Nat} {u : Tm} (h : ts[k]? = some u) : headsT d b (ts.take (k + 1)) = headsT d b (ts.take k) ++ u.heads d b := by
  rw [List.take_add_one, h, headsT_append]; simp [headsT]
theorem headsT_len2 (d b : Nat) (a : List Tm) : (headsT d b a).length = sizeT a := headsT_length d b a (fun t _ d b => t.heads_length d b)

set_option maxRecDepth 100000 in
set_option maxHeartbeats 1600000 in
theorem refLooses_calls (t : Tm) : ∀ (d b : Nat) (ok : Nat → Prop) (sb sl : Value) (w : World), Holds w ok t.binds sb → HoldsT w ok t.args sl → t.total ≤ 100000 → b + t.total ≤ 1000000 → t.rng →
    Calls Try.prog 95 #[tmv sb t.kind t.idx sl, .int .i64 (b : Int)] w fun e w' => ∃ v, e = .returned v ∧ w'.ownsRow w.heap.size 3 1 v (los (t.heads d b)).length (ints (los (t.heads d b))) ∧ (los (t.heads d b) = [] → v = .slice none 0 0) ∧ Below w.heap.size w w' := by
  induction t using Tm.ind with
  | h t ih =>
  intro d b ok sb sl w hb hh hsz hbt hrg
  rw [t.rng_eq] at hrg
  have htt := t.total_eq
  have hst := t.size_le_total
  have hlb := sizeL_length t.binds
  have hwi := t.heads_eq d b
  have hai := totalT_length t.args
  obtain ⟨x1, x2, rfl, _⟩ := hb.shape
  obtain ⟨bn, hbn⟩ : ∃ n, t.binds.length = n := ⟨_, rfl⟩
  rw [hbn] at hb hlb hwi ⊢
  obtain ⟨ts, hts⟩ : ∃ ts, t.args = ts := ⟨_, rfl⟩
  have hrt := (rngT_iff t.args).1 hrg.2
  have hfi := hrg.1.2
  rw [hts] at hh ih htt hwi hrt hai
  have HRT : Hid _ := hrt
  obtain ⟨L0, hL0⟩ : ∃ L, (match (⟨d, b + bn, t.kind, t.idx⟩ : Hd).out with | some i => [i] | none => []) = L := ⟨_, rfl⟩
  have HWI : Hid (los (t.heads d b) = L0 ++ los (headsT (d + 1) (b + bn) ts)) := by show _ = _; rw [hwi, los_cons, hL0]
  obtain ⟨tv, htv⟩ : ∃ v : Bool, (decide (t.kind = 0) && decide (((b : Int) + (bn : Int)) ≤ t.idx)) = v := ⟨_, rfl⟩
  have HL1 : Hid (tv = true → L0 = [t.idx - ((b : Int) + (bn : Int))]) := fun e => by
    rw [← htv, Bool.and_eq_true, decide_eq_true_iff, decide_eq_true_iff] at e
    rw [← hL0, Hd.out_eq, if_pos ⟨e.1, by omega⟩]
    simp only
    rw [show t.idx - ((b + bn : Nat) : Int) = t.idx - ((b : Int) + (bn : Int)) by omega]
  have HL2 : Hid (tv = false → L0 = []) := fun e => by
    rw [← hL0, Hd.out_eq, if_neg (fun h9 => by
      have : tv = true := by rw [← htv, Bool.and_eq_true, decide_eq_true_iff, decide_eq_true_iff]; exact ⟨h9.1, by omega⟩
      rw [e] at this
      cases this)]
  have HTV : Hid _ := htv
  clear hwi hL0 hrt htv
  obtain ⟨a, cap, rfl, hcap, hat⟩ := hh.shape
  have HA : Hid _ := hat
  clear hat hh hb hbn
  have hln := sizeT_length ts
  obtain ⟨j0, hj, hy0, hy1, hy2⟩ := info_parts info3
  obtain ⟨N, hN⟩ : ∃ N, w.heap.size = N := ⟨_, rfl⟩
  rw [hN]
  have hfl : -9223372036854775808 ≤ t.idx ∧ t.idx ≤ 9223372036854775807 := hfi
  clear hrg hfi hst
  go_enter Try.func95, Try.ntmps95
  go_upto_region 3 with fail
  obtain ⟨W1, hW1⟩ : ∃ W1, w.alloc (.cells #[.slice x1 bn x2, .int .i64 t.kind, .int .i64 t.idx, .slice a ts.length cap] 27) = W1 := ⟨_, rfl⟩
  have b1 : Blk W1 N 27 #[.slice x1 bn x2, .int .i64 t.kind, .int .i64 t.idx, .slice a ts.length cap] := by rw [← hW1]; exact Blk.new' w N 27 _ hN
  have hz1 : W1.heap.size = N + 1 := by rw [← hW1]; simp [hN]
  have bl1 : Below N w W1 := by rw [← hW1]; exact (Below.refl N w).alloc (by omega) _
  rw [hW1]
  have HN : Hid (w.heap.size = N) := hN
  clear hW1 hN
  have c1 := b1.cell 1
  have c2 := b1.cell 2
  go_cut [23] (fun s23 wx => s23 = .bool tv ∧ wx = W1)
  case first =>
    have htv := HTV.out
    by_cases e1 : t.kind = 0
    · have z1 : (t.kind == 0) = true := by simp [e1]
      by_cases e2 : (b : Int) + (bn : Int) ≤ t.idx
      · have z2 : decide (t.idx ≥ (b : Int) + (bn : Int)) = true := decide_eq_true e2
        have z3 : decide ((b : Int) + (bn : Int) ≤ t.idx) = true := decide_eq_true e2
        have ztv : tv = true := by rw [← htv]; simp [e1, e2]
        subst ztv
        clear e1 e2 htv
        go_wp2_with fail
        go_meet
        exact ⟨rfl, rfl⟩
      · have z2 : decide (t.idx ≥ (b : Int) + (bn : Int)) = false := decide_eq_false e2
        have z3 : decide ((b : Int) + (bn : Int) ≤ t.idx) = false := decide_eq_false e2
        have ztv : tv = false := by rw [← htv]; simp [e2]
        subst ztv
        clear e1 e2 htv
        go_wp2_with fail
        go_meet
        exact ⟨rfl, rfl⟩
    · have z1 : (t.kind == 0) = false := by simp [e1]
      have ztv : tv = false := by rw [← htv]; simp [e1]
      subst ztv
      clear e1 htv
      go_wp2_with fail
      go_meet
      exact ⟨rfl, rfl⟩
  case rest =>
  obtain ⟨rfl, rfl⟩ := hcut
  go_upto_if 23 with fail
  go_cut [5] (fun s5 wx => ∃ v, s5 = v ∧ wx.ownsRow (N + 1) 3 1 v L0.length (ints L0) ∧ (L0 = [] → v = .slice none 0 0) ∧ Blk wx N 27 #[.slice x1 bn x2, .int .i64 t.kind, .int .i64 t.idx, .slice a ts.length cap] ∧ Below N w wx)
  case first =>
    cases tv with
    | true =>
      have HL := HL1.out rfl
      have HLH : Hid _ := HL
      clear HL
      have htv := HTV.out
      rw [Bool.and_eq_true, decide_eq_true_iff, decide_eq_true_iff] at htv
      have hge := htv.2
      clear htv HL1 HL2
      go_wp2_with (at_builtin; refine wpList_append_lies _ rfl _ _ 41 rfl (N + 1) 3 j0 (.int .i64 0) 1 8 Try.underlying41 hj hy0 hy1 hy2 rfl (by decide) _ 0 [] rfl ((World.ownsRow_nil _ _ _ _)) ⟨N + 1, 0, none⟩ 1 1 [.int .i64 (t.idx - ((b : Int) + (bn : Int)))] rfl rfl (cell_one _ (N + 1) (by simp [hz1]) _ _) (by simp [Value.oneCell']) (by omega) (by unfold maxLen; omega) (by omega) (by simp [hz1]) _ rfl ?_; intro g2 cap2 w2 hown2 hgrow2 hat2 hlt2)
      have hg3 : World.grownBy _ w2 none := hgrow2
      have b3 := (b1.alloc (.cells #[.int .i64 (t.idx - ((b : Int) + (bn : Int)))] 3)).kept hg3 (by simp)
      have bl3 := (bl1.alloc (by omega) (.cells #[.int .i64 (t.idx - ((b : Int) + (bn : Int)))] 3)).grown hg3 (by simp; omega) (fun j hj => by cases hj)
      go_wp2_with fail
      go_meet
      rw [HLH.out]
      exact ⟨_, rfl, by simpa [ints] using hown2, fun e => by simp at e, b3, bl3⟩
    | false =>
      have HL := HL2.out rfl
      have HLH : Hid _ := HL
      clear HL HL1 HL2 HTV
      go_wp2_with fail
      go_meet
      rw [HLH.out]
      exact ⟨_, rfl, World.ownsRow_nil _ _ _ _, fun _ => rfl, b1, bl1⟩
  case rest =>
  obtain ⟨v0, rfl, hrow0, hnil0, b2, bl2⟩ := hcut
  have hll0 : L0.length ≤ 1 := by
    cases tv with
    | true => rw [HL1.out rfl]; simp
    | false => rw [HL2.out rfl]; simp
  clear b1 bl1 c1 c2 hz1 HL1 HL2 HTV
  go_wp2_with fail
  go_loopw [5, 7] (fun l i wr => ∃ (k : Nat) (vk : Value) (Lk : List Int), k ≤ ts.length ∧ i = .int .i64 k ∧ l = vk ∧ Hid (Lk = L0 ++ los (headsT (d + 1) (b + bn) (ts.take k))) ∧ wr.ownsRow (N + 1) 3 1 vk Lk.length (ints Lk) ∧ (Lk = [] → vk = .slice none 0 0) ∧ Blk wr N 27 #[.slice x1 bn x2, .int .i64 t.kind, .int .i64 t.idx, .slice a ts.length cap] ∧ Below N w wr)
    (fun _ i _ => ts.length - (intOf i).toNat)
  case atStart => exact ⟨0, _, L0, Nat.zero_le _, rfl, rfl, by show _ = _; simp [headsT, los], hrow0, hnil0, b2, bl2⟩
  case round =>
    clear hrow0 hnil0 b2 bl2
    obtain ⟨k, vk, Lk, hk, rfl, rfl, HK, hrk, hnk, bk, hbl⟩ := hrel
    have r3 := bk.cell 3
    have hMw : N + 1 ≤ wr.heap.size := bk.lt
    have hlk : Lk.length ≤ 1 + sizeT (ts.take k) := by
      rw [HK.out, List.length_append]
      have := los_length (headsT (d + 1) (b + bn) (ts.take k))
      rw [headsT_len2] at this
      omega
    have hle0 := sizeT_take_le' ts k
    have hst9 := sizeT_le_totalT ts (fun t _ => t.size_le_total)
    by_cases hlt : k < ts.length
    · obtain ⟨u, hu⟩ : ∃ u, ts[k]? = some u := ⟨_, List.getElem?_eq_getElem hlt⟩
      obtain ⟨g, o, s, r, rfl, hg, hgl, q0, q1, q2, q3, hs, hr⟩ := HA.out k u hu
      have hbw : Below w.heap.size w wr := by rw [HN.out]; exact hbl
      have a0 := (cat hbw hgl).trans q0
      have a1 := (cat hbw hgl).trans q1
      have a2 := (cat hbw hgl).trans q2
      have a3 := (cat hbw hgl).trans q3
      have hm := List.mem_of_getElem? hu
      have hus := total_mem hm
      have y1 : (0 : Int) ≤ (k : Int) := by omega
      have y2 : (k : Int) < (ts.length : Int) := by omega
      have hcall := ih u hm (d + 1) (b + bn) ok s r wr (hs.bel hbw) (hr.bel hbw) (by omega) (by omega) (HRT.out u hm)
      have HK2 : Hid (Lk ++ los (u.heads (d + 1) (b + bn)) = L0 ++ los (headsT (d + 1) (b + bn) (ts.take (k + 1)))) := by show _ = _; rw [HK.out, headsT_take2 hu, los_append, List.append_assoc]
      have hlu := los_length (u.heads (d + 1) (b + bn))
      rw [u.heads_length] at hlu
      have huz := u.size_le_total
      obtain ⟨Lu, hLu⟩ : ∃ L, los (u.heads (d + 1) (b + bn)) = L := ⟨_, rfl⟩
      rw [hLu] at hcall HK2 hlu
      rw [show ((b + bn : Nat) : Int) = (b : Int) + (bn : Int) by omega] at hcall
      have hNw : N ≤ wr.heap.size := by omega
      obtain ⟨sa, sc, rfl, _⟩ := hs.shape
      obtain ⟨ra, rc, rfl, _⟩ := hr.shape
      generalize u.binds.length = un at *
      generalize u.args.length = ul at *
      obtain ⟨n, hn⟩ : ∃ n, Lk.length = n := ⟨_, rfl⟩
      obtain ⟨m, hm2⟩ : ∃ m, Lu.length = m := ⟨_, rfl⟩
      rw [hn] at hrk hlk
      rw [hm2] at hcall hlu
      have HLN : Hid (Lk.length = n) := hn
      have HLM : Hid (Lu.length = m) := hm2
      have HNK : Hid _ := hnk
      have hnb : n ≤ 200000 := by omega
      have hmb : m ≤ 200000 := by omega
      clear q0 q1 q2 q3 hu ih hs hr hLu hn hm2 hnk hlk hlu huz hus hle0 hst9
      go_wp2_with fail
      refine hcall.mono ?_
      clear hcall
      rintro e wc ⟨v2, rfl, hr2, hn2, hbc⟩
      have hrkc := row_bel hrk hbc
      have bkc := bk.below hbc bk.lt
      have hblc : Below N w wc := hbl.trans (hbc.mono hNw)
      have hMc : N + 1 ≤ wc.heap.size := bkc.lt
      clear hrk bk hbl r3 a0 a1 a2 a3
      by_cases hm0 : m = 0
      · have hLu0 : Lu = [] := List.eq_nil_of_length_eq_zero (by rw [HLM.out]; exact hm0)
        rw [hn2 hLu0]
        have HK3 : Hid (Lk = L0 ++ los (headsT (d + 1) (b + bn) (ts.take (k + 1)))) := by show _ = _; rw [← HK2.out, hLu0, List.append_nil]
        clear hn2 hr2 hLu0 hm0
        go_wp2_with (at_builtin; refine wpList_append_own_none rfl _ _ 41 rfl (N + 1) 3 j0 1 Try.underlying41 hj _ n (ints Lk) rfl hrkc rfl ?_)
        go_roundw
        case rel => exact ⟨k + 1, _, Lk, by omega, by go_num, rfl, HK3, by rw [HLN.out]; exact hrkc, HNK.out, bkc, hblc⟩
        case measure => simp [intOf]; omega
      · obtain ⟨g2, c2, rfl, hg2, hgl2⟩ := hr2.form (by omega)
        have p3 : 0 < m := by omega
        clear hn2 hm0
        go_wp2_with (at_builtin; refine wpList_append_lies _ rfl _ _ 41 rfl (N + 1) 3 j0 (.int .i64 0) 1 8 Try.underlying41 hj hy0 hy1 hy2 rfl (by decide) _ n (ints Lk) rfl hrkc ⟨g2, 0, none⟩ m c2 (ints Lu) rfl (by rw [ints_length, HLM.out]; omega) (hr2.cells rfl) (one_ints _) p3 (by unfold maxLen; omega) (by omega) hMc _ rfl ?_; intro g4 cap4 w4 hown4 hgrow4 hat4 hlt4)
        have bk4 := bkc.kept hgrow4 (fun e => by have := (hrkc.lt N e.symm).1; omega)
        have hbl4 : Below N w w4 := hblc.grown hgrow4 (by omega) (fun j hj => by have := (hrkc.lt j hj).1; omega)
        have hll : (Lk ++ Lu).length = n + m := by rw [List.length_append, HLN.out, HLM.out]
        rw [← ints_append] at hown4
        go_roundw
        case rel => exact ⟨k + 1, _, Lk ++ Lu, by omega, by go_num, rfl, HK2.out, by rw [hll]; exact hown4, fun e => by rw [e] at hll; simp at hll; omega, bk4, hbl4⟩
        case measure => simp [intOf]; omega
    · obtain rfl : k = ts.length := by omega
      rw [List.take_length] at HK
      go_wp2
      go_ret
      rw [← HWI.out] at HK
      refine ⟨_, rfl, ?_, ?_, hbl⟩
      · rw [← HK.out]; exact row_mono hrk (by omega)
      · rw [← HK.out]; exact hnk

end Go.Proofs.Ytheokboggjnenaa

/-
  The contracts of the document's Looses and Loose.
-/
namespace Go.Proofs.Ytheokboggjnenaa
open Go Go.RowKit Go.Sort

/-- The greatest loose index, as the document counts it. -/
def lm : List Int → Int
  | [] => 0
  | i :: r => max (min i 1000 + 1) (lm r)
theorem ints_get2 (l : List Int) (i : Nat) (x : Int) (h : l[i]? = some x) : (ints l)[i]? = some (.int .i64 x) := by unfold ints; rw [List.getElem?_map, h]; rfl
theorem lm_lo (l : List Int) : 0 ≤ lm l ∧ lm l ≤ 1001 := by
  induction l with
  | nil => simp [lm]
  | cons i r ih => simp only [lm]; omega
theorem lm_append (a b : List Int) : lm (a ++ b) = max (lm a) (lm b) := by
  induction a with
  | nil => have := lm_lo b; simp only [List.nil_append, lm]; omega
  | cons p a ih => simp only [List.cons_append, lm, ih]; omega
theorem lm_los (l : List Hd) : lm (los l) = lmax l := by
  induction l with
  | nil => rfl
  | cons p r ih =>
    have h0 := lmax_nonneg r
    rw [los_cons, lm_append, ih, show lmax (p :: r) = max p.lo (lmax r) from rfl]
    unfold Hd.lo
    cases h : p.out with
    | none => simp only [lm]
    | some i =>
      have : 0 ≤ i := by
        unfold Hd.out at h
        by_cases h2 : p.kind = 0 ∧ (p.around : Int) ≤ p.idx
        · rw [if_pos h2] at h; simp at h; omega
        · rw [if_neg h2] at h; cases h
      simp only [lm]
      omega
theorem out_pos {l : List Hd} {i : Int} (h : i ∈ los l) (hf : ∀ p ∈ l, fits p.idx) : 0 ≤ i ∧ i ≤ 9223372036854775807 := by
  unfold los at h
  obtain ⟨p, hp, ho⟩ := List.mem_filterMap.1 h
  have h9 := (hf p hp).2
  unfold Hd.out at ho
  by_cases h2 : p.kind = 0 ∧ (p.around : Int) ≤ p.idx
  · rw [if_pos h2] at ho; simp at ho; omega
  · rw [if_neg h2] at ho; cases ho

set_option maxRecDepth 100000 in
set_option maxHeartbeats 800000 in
theorem refLoosesT_calls (t : Tm) (ok : Nat → Prop) (sb sl : Value) (w : World) (hb : Holds w ok t.binds sb) (hh : HoldsT w ok t.args sl) (hsz : t.total ≤ 100000) (hrg : t.rng) :
    Calls Try.prog 58 #[tmv sb t.kind t.idx sl] w fun e w' => ∃ v, e = .returned v ∧ w'.ownsRow w.heap.size 3 1 v (los (t.heads 1 0)).length (ints (los (t.heads 1 0))) ∧ (los (t.heads 1 0) = [] → v = .slice none 0 0) ∧ Below w.heap.size w w' := by
  obtain ⟨x1, x2, rfl, _⟩ := hb.shape
  obtain ⟨x3, x4, rfl, _⟩ := hh.shape
  obtain ⟨bn, hbn⟩ : ∃ n, t.binds.length = n := ⟨_, rfl⟩
  obtain ⟨an, han⟩ : ∃ n, t.args.length = n := ⟨_, rfl⟩
  rw [hbn] at hb ⊢
  rw [han] at hh ⊢
  obtain ⟨N, hN⟩ : ∃ N, w.heap.size = N := ⟨_, rfl⟩
  have hcall := refLooses_calls t 1 0 ok _ _ (w.alloc (.cells #[.slice x1 bn x2, .int .i64 t.kind, .int .i64 t.idx, .slice x3 an x4] 27)) (hb.alloc _) (hh.alloc _) hsz (by omega) hrg
  have b1 := Blk.new' w N 27 #[.slice x1 bn x2, .int .i64 t.kind, .int .i64 t.idx, .slice x3 an x4] hN
  have c0 := b1.cell 0
  have c1 := b1.cell 1
  have c2 := b1.cell 2
  have c3 := b1.cell 3
  rw [hN]
  have hbl : Below N w (w.alloc (.cells #[.slice x1 bn x2, .int .i64 t.kind, .int .i64 t.idx, .slice x3 an x4] 27)) := (Below.refl N w).alloc (by omega) _
  have hsz1 : (w.alloc (.cells #[.slice x1 bn x2, .int .i64 t.kind, .int .i64 t.idx, .slice x3 an x4] 27)).heap.size = N + 1 := by simp [hN]
  rw [hsz1] at hcall
  rw [show ((0 : Nat) : Int) = 0 from rfl] at hcall
  clear b1 hsz1
  go_enter Try.func58, Try.ntmps58
  go_wp2_with fail
  refine hcall.mono ?_
  rintro e w2 ⟨v, rfl, h1, h2, h3⟩
  go_wp2
  go_ret
  exact ⟨_, rfl, row_mono h1 (by omega), h2, hbl.trans (h3.mono (by omega))⟩

set_option maxRecDepth 100000 in
set_option maxHeartbeats 1600000 in
theorem refLooseT_calls (t : Tm) (ok : Nat → Prop) (sb sl : Value) (w : World) (hb : Holds w ok t.binds sb) (hh : HoldsT w ok t.args sl) (hsz : t.total ≤ 100000) (hrg : t.rng) :
    Calls Try.prog 19 #[tmv sb t.kind t.idx sl] w fun e w' => e = .returned (.int .i64 (looseI t)) ∧ Below w.heap.size w w' := by
  have hpos : ∀ i ∈ los (t.heads 1 0), 0 ≤ i ∧ i ≤ 9223372036854775807 := fun i hi => out_pos hi (fun p hp => (rng_heads t hrg 1 0 p hp).2)
  have HPOS : Hid _ := hpos
  have hlen := los_length (t.heads 1 0)
  rw [t.heads_length] at hlen
  have hst := t.size_le_total
  have HLO : Hid (lm (los (t.heads 1 0)) = looseI t) := lm_los _
  obtain ⟨x1, x2, rfl, _⟩ := hb.shape
  obtain ⟨x3, x4, rfl, _⟩ := hh.shape
  obtain ⟨bn, hbn⟩ : ∃ n, t.binds.length = n := ⟨_, rfl⟩
  obtain ⟨an, han⟩ : ∃ n, t.args.length = n := ⟨_, rfl⟩
  rw [hbn] at hb ⊢
  rw [han] at hh ⊢
  obtain ⟨N, hN⟩ : ∃ N, w.heap.size = N := ⟨_, rfl⟩
  have hcall := refLoosesT_calls t ok (.slice x1 bn x2) (.slice x3 an x4) (w.alloc (.cells #[.slice x1 bn x2, .int .i64 t.kind, .int .i64 t.idx, .slice x3 an x4] 27)) (hb.alloc _) (hh.alloc _) hsz hrg
  have b1 := Blk.new' w N 27 #[.slice x1 bn x2, .int .i64 t.kind, .int .i64 t.idx, .slice x3 an x4] hN
  have c0 := b1.cell 0
  have c1 := b1.cell 1
  have c2 := b1.cell 2
  have c3 := b1.cell 3
  rw [hN]
  have hbl : Below N w (w.alloc (.cells #[.slice x1 bn x2, .int .i64 t.kind, .int .i64 t.idx, .slice x3 an x4] 27)) := (Below.refl N w).alloc (by omega) _
  have hsz1 : (w.alloc (.cells #[.slice x1 bn x2, .int .i64 t.kind, .int .i64 t.idx, .slice x3 an x4] 27)).heap.size = N + 1 := by simp [hN]
  rw [hsz1] at hcall
  obtain ⟨L, hL⟩ : ∃ L, los (t.heads 1 0) = L := ⟨_, rfl⟩
  rw [hL] at HPOS hlen hcall HLO
  obtain ⟨n, hn⟩ : ∃ n, L.length = n := ⟨_, rfl⟩
  rw [hn] at hlen hcall
  have HN : Hid (L.length = n) := hn
  have hn9 : n ≤ 100000 := by omega
  clear b1 hpos hL hn hlen hst hsz1
  go_enter Try.func19, Try.ntmps19
  go_wp2_with fail
  refine hcall.mono ?_
  rintro e w2 ⟨v, rfl, h1, _, h3⟩
  have hbl2 : Below N w w2 := hbl.trans (h3.mono (by omega))
  have hform : ∃ g c, v = .slice g n c ∧ (∀ i x, L[i]? = some x → ∃ b, g = some ⟨b, 0, none⟩ ∧ w2.cell? ⟨b, i, none⟩ = some (.int .i64 x)) := by
    rcases h1.2 with ⟨e1, e2⟩ | ⟨g, cap, cur, e1, e2, e3, e4, e5, e6⟩
    · refine ⟨none, 0, by rw [e1, e2], fun i x hi => ?_⟩
      have := (List.getElem?_eq_some_iff.1 hi).1
      rw [HN.out] at this
      omega
    · refine ⟨some ⟨g, 0, none⟩, cap, e1, fun i x hi => ⟨g, rfl, ?_⟩⟩
      subst e1
      have hil := (List.getElem?_eq_some_iff.1 hi).1
      rw [HN.out] at hil
      exact (World.ownsRow.cellAt h1 i (by omega)).trans (ints_get2 L i x hi)
  obtain ⟨g, c, rfl, hat⟩ := hform
  have HAT : Hid _ := hat
  clear hat hcall h1 h3 hbl c0 c1 c2 c3
  go_wp2_with fail
  go_loopw [3, 5] (fun s i wr => ∃ k : Nat, k ≤ n ∧ i = .int .i64 k ∧ s = .int .i64 (lm (L.take k)) ∧ wr = w2) (fun _ i _ => n - (intOf i).toNat)
  case atStart => exact ⟨0, Nat.zero_le _, rfl, rfl, rfl⟩
  case round =>
    obtain ⟨k, hk, rfl, rfl, rfl⟩ := hrel
    have hlo := lm_lo (L.take k)
    by_cases hlt : k < n
    · obtain ⟨x, hx⟩ : ∃ x, L[k]? = some x := ⟨_, List.getElem?_eq_getElem (by rw [HN.out]; exact hlt)⟩
      obtain ⟨b, rfl, q0⟩ := HAT.out k x hx
      have hxp := HPOS.out x (List.mem_of_getElem? hx)
      have HS : Hid (lm (L.take (k + 1)) = max (lm (L.take k)) (min x 1000 + 1)) := by
        show _ = _
        rw [List.take_add_one, hx, lm_append]
        simp only [Option.toList, lm]
        omega
      obtain ⟨s, hs⟩ : ∃ s, lm (L.take k) = s := ⟨_, rfl⟩
      rw [hs] at HS hlo
      rw [hs]
      have y1 : (0 : Int) ≤ (k : Int) := by omega
      have y2 : (k : Int) < (n : Int) := by omega
      clear hs hx
      by_cases h1 : 1000 < x
      · have z1 : decide (x > 1000) = true := decide_eq_true h1
        have z2 : decide ((1000 : Int) < x) = true := decide_eq_true h1
        by_cases h2 : s < 1001
        · have z3 : decide ((1001 : Int) > s) = true := decide_eq_true h2
          have z4 : decide (s < (1001 : Int)) = true := decide_eq_true h2
          go_wp2
          go_roundw
          case rel => exact ⟨k + 1, by omega, by go_num, by rw [HS.out]; congr 1; omega, trivial⟩
          case measure => simp [intOf]; omega
        · have z3 : decide ((1001 : Int) > s) = false := decide_eq_false h2
          have z4 : decide (s < (1001 : Int)) = false := decide_eq_false h2
          go_wp2
          go_roundw
          case rel => exact ⟨k + 1, by omega, by go_num, by rw [HS.out]; congr 1; omega, trivial⟩
          case measure => simp [intOf]; omega
      · have z1 : decide (x > 1000) = false := decide_eq_false h1
        have z2 : decide ((1000 : Int) < x) = false := decide_eq_false h1
        by_cases h2 : s < x + 1
        · have z3 : decide (x + 1 > s) = true := decide_eq_true h2
          have z4 : decide (s < x + 1) = true := decide_eq_true h2
          go_wp2
          go_roundw
          case rel => exact ⟨k + 1, by omega, by go_num, by rw [HS.out]; congr 1; omega, trivial⟩
          case measure => simp [intOf]; omega
        · have z3 : decide (x + 1 > s) = false := decide_eq_false h2
          have z4 : decide (s < x + 1) = false := decide_eq_false h2
          go_wp2
          go_roundw
          case rel => exact ⟨k + 1, by omega, by go_num, by rw [HS.out]; congr 1; omega, trivial⟩
          case measure => simp [intOf]; omega
    · obtain rfl : k = n := by omega
      have HT : Hid (L.take k = L) := List.take_of_length_le (by rw [HN.out]; exact Nat.le_refl _)
      rw [HT.out, HLO.out]
      go_wp2
      go_ret
      exact ⟨rfl, hbl2⟩

end Go.Proofs.Ytheokboggjnenaa
