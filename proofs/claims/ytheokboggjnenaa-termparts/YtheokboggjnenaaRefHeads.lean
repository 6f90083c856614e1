/-
  The contracts of the document's heads and Heads.
-/
import Derived.Test.YtheokboggjnenaaRefLoose
namespace Go.Proofs.Ytheokboggjnenaa
open Go Go.RowKit Go.Sort

/-- A head as it is seen from outside, if it is to be seen there. -/
def Hd.vis (p : Hd) : Option (Int × Int) := if p.kind ≠ 0 then some (p.kind, p.idx) else if (p.around : Int) ≤ p.idx then some (0, p.idx - p.around) else none
def viss (l : List Hd) : List (Int × Int) := l.filterMap Hd.vis
theorem viss_append (a b : List Hd) : viss (a ++ b) = viss a ++ viss b := List.filterMap_append
theorem viss_cons (p : Hd) (r : List Hd) : viss (p :: r) = (match p.vis with | some i => [i] | none => []) ++ viss r := by
  unfold viss
  cases h : p.vis with
  | none => simp [h]
  | some i => simp [h]
theorem viss_length (l : List Hd) : (viss l).length ≤ l.length := List.length_filterMap_le _ _
theorem Hd.vis_eq (d b : Nat) (k i : Int) : (⟨d, b, k, i⟩ : Hd).vis = if k ≠ 0 then some (k, i) else if (b : Int) ≤ i then some (0, i - b) else none := rfl
/-- Heads as cells. -/
def hcs : List (Int × Int) → List Value
  | [] => []
  | p :: r => .int .i64 p.1 :: .int .i64 p.2 :: hcs r
theorem hcs_append (a b : List (Int × Int)) : hcs (a ++ b) = hcs a ++ hcs b := by
  induction a with
  | nil => rfl
  | cons p a ih => simp [hcs, ih]
theorem hcs_length (a : List (Int × Int)) : (hcs a).length = a.length * 2 := by
  induction a with
  | nil => rfl
  | cons p a ih => simp [hcs, ih]; omega
theorem one_hcs (l : List (Int × Int)) : ∀ u ∈ hcs l, u.oneCell' = true := by
  induction l with
  | nil => intro u hu; cases hu
  | cons p l ih =>
    intro u hu
    simp only [hcs, List.mem_cons] at hu
    rcases hu with rfl | rfl | hu
    · rfl
    · rfl
    · exact ih u hu
theorem hcs_get (l : List (Int × Int)) (i : Nat) (x : Int × Int) (h : l[i]? = some x) : (hcs l)[i * 2]? = some (.int .i64 x.1) ∧ (hcs l)[i * 2 + 1]? = some (.int .i64 x.2) := by
  induction l generalizing i with
  | nil => simp at h
  | cons p l ih =>
    cases i with
    | zero => simp at h; subst h; exact ⟨rfl, rfl⟩
    | succ i =>
      have h2 := ih i (by simpa using h)
      rw [show (i + 1) * 2 = i * 2 + 1 + 1 by omega]
      simpa [hcs] using h2
theorem info24h : (Try.prog.info? 24).map (fun i => (i.zero, i.size, i.bytes)) = some (some (.agg #[.int .i64 0, .int .i64 0]), 2, 16) := by kernel_rfl

theorem cell_two (w : World) (B : Nat) (hB : w.heap.size = B) (x y : Value) (t : TypeId) : ∀ i u, ([x, y] : List Value)[i]? = some u → (w.alloc (.cells #[x, y] t)).cell? ((⟨B, 0, none⟩ : Addr).add i) = some u := fun i u h => by
  have hb := Blk.new' w B t #[x, y] hB
  have e : ((⟨B, 0, none⟩ : Addr).add i) = ⟨B, i, none⟩ := by simp [Addr.add]; omega
  rw [e, hb.cell i]
  simpa using h

set_option maxRecDepth 100000 in
set_option maxHeartbeats 1600000 in
theorem refHeads_calls (t : Tm) : ∀ (d b : Nat) (ok : Nat → Prop) (sb sl : Value) (w : World), Holds w ok t.binds sb → HoldsT w ok t.args sl → t.total ≤ 100000 → b + t.total ≤ 1000000 → t.rng →
    Calls Try.prog 98 #[tmv sb t.kind t.idx sl, .int .i64 (b : Int)] w fun e w' => ∃ v, e = .returned v ∧ w'.ownsRow w.heap.size 24 2 v (viss (t.heads d b)).length (hcs (viss (t.heads d b))) ∧ (viss (t.heads d b) = [] → v = .slice none 0 0) ∧ Below w.heap.size w w' := by
  induction t using Tm.ind with
  | h t ih =>
  intro d b ok sb sl w hb hh hsz hbt hrg
  rw [t.rng_eq] at hrg
  have htt := t.total_eq
  have hst := t.size_le_total
  have hlb := sizeL_length t.binds
  have hwi := t.heads_eq d b
  have hai := totalT_length t.args
  obtain ⟨x1, x2, rfl, _⟩ := hb.shape
  obtain ⟨bn, hbn⟩ : ∃ n, t.binds.length = n := ⟨_, rfl⟩
  rw [hbn] at hb hlb hwi ⊢
  obtain ⟨ts, hts⟩ : ∃ ts, t.args = ts := ⟨_, rfl⟩
  have hrt := (rngT_iff t.args).1 hrg.2
  have hfi := hrg.1.2
  rw [hts] at hh ih htt hwi hrt hai
  have HRT : Hid _ := hrt
  obtain ⟨L0, hL0⟩ : ∃ L, (match (⟨d, b + bn, t.kind, t.idx⟩ : Hd).vis with | some i => [i] | none => []) = L := ⟨_, rfl⟩
  have HWI : Hid (viss (t.heads d b) = L0 ++ viss (headsT (d + 1) (b + bn) ts)) := by show _ = _; rw [hwi, viss_cons, hL0]
  obtain ⟨tv, htv⟩ : ∃ v : Bool, (t.kind != 0) = v := ⟨_, rfl⟩
  obtain ⟨uv, huv⟩ : ∃ v : Bool, decide (t.idx ≥ (b : Int) + (bn : Int)) = v := ⟨_, rfl⟩
  have huv2 : decide ((b : Int) + (bn : Int) ≤ t.idx) = uv := huv
  have HL1 : Hid (tv = true → L0 = [(t.kind, t.idx)]) := fun e => by
    rw [← htv] at e
    rw [← hL0, Hd.vis_eq, if_pos (by simpa using e)]
  have HL2 : Hid (tv = false → uv = true → L0 = [(0, t.idx - ((b : Int) + (bn : Int)))]) := fun e e2 => by
    rw [← htv] at e
    rw [← huv, decide_eq_true_iff] at e2
    rw [← hL0, Hd.vis_eq, if_neg (by simpa using e), if_pos (by omega)]
    simp only
    rw [show t.idx - ((b + bn : Nat) : Int) = t.idx - ((b : Int) + (bn : Int)) by omega]
  have HL3 : Hid (tv = false → uv = false → L0 = []) := fun e e2 => by
    rw [← htv] at e
    rw [← huv, decide_eq_false_iff_not] at e2
    rw [← hL0, Hd.vis_eq, if_neg (by simpa using e), if_neg (by omega)]
  have HTV : Hid _ := htv
  have HUV : Hid _ := huv
  clear hwi hL0 hrt
  obtain ⟨a, cap, rfl, hcap, hat⟩ := hh.shape
  have HA : Hid _ := hat
  clear hat hh hb hbn
  have hln := sizeT_length ts
  obtain ⟨j0, hj, hy0, hy1, hy2⟩ := info_parts info24h
  obtain ⟨N, hN⟩ : ∃ N, w.heap.size = N := ⟨_, rfl⟩
  rw [hN]
  have hfl : -9223372036854775808 ≤ t.idx ∧ t.idx ≤ 9223372036854775807 := hfi
  clear hrg hfi hst
  go_enter Try.func98, Try.ntmps98
  go_upto_region 3 with fail
  obtain ⟨W1, hW1⟩ : ∃ W1, w.alloc (.cells #[.slice x1 bn x2, .int .i64 t.kind, .int .i64 t.idx, .slice a ts.length cap] 27) = W1 := ⟨_, rfl⟩
  have b1 : Blk W1 N 27 #[.slice x1 bn x2, .int .i64 t.kind, .int .i64 t.idx, .slice a ts.length cap] := by rw [← hW1]; exact Blk.new' w N 27 _ hN
  have hz1 : W1.heap.size = N + 1 := by rw [← hW1]; simp [hN]
  have bl1 : Below N w W1 := by rw [← hW1]; exact (Below.refl N w).alloc (by omega) _
  rw [hW1]
  have HN : Hid (w.heap.size = N) := hN
  clear hW1 hN
  have c1 := b1.cell 1
  have c2 := b1.cell 2
  go_upto_if 13 with fail
  cases tv with
  | true =>
    have HL := HL1.out rfl
    have HLH : Hid _ := HL
    clear HL HL1 HL2 HL3
    go_wp2_with (at_builtin; refine wpList_append_lies _ rfl _ _ 105 rfl (N + 1) 24 j0 (.agg #[.int .i64 0, .int .i64 0]) 2 16 Try.underlying105 hj hy0 hy1 hy2 rfl (by decide) _ 0 [] rfl ((World.ownsRow_nil _ _ _ _)) ⟨N + 1, 0, none⟩ 1 1 [.int .i64 t.kind, .int .i64 t.idx] rfl rfl (cell_two _ (N + 1) (by simp [hz1]) _ _ _) (by simp [Value.oneCell']) (by omega) (by unfold maxLen; omega) (by omega) (by simp [hz1]) _ rfl ?_; intro g2 cap2 w2 hown2 hgrow2 hat2 hlt2)
    have hg3 : World.grownBy _ w2 none := hgrow2
    have b3 := (b1.alloc (.cells #[.int .i64 t.kind, .int .i64 t.idx] 24)).kept hg3 (by simp)
    have bl3 := (bl1.alloc (by omega) (.cells #[.int .i64 t.kind, .int .i64 t.idx] 24)).grown hg3 (by simp; omega) (fun j hj => by cases hj)
    have hrow0 := hown2
    obtain ⟨W2, rfl⟩ : ∃ W, W = w2 := ⟨_, rfl⟩
    rw [HLH.out] at HWI
    clear hown2 hgrow2 hat2 hlt2 hg3 b1 bl1 c1 c2 hz1 HTV HUV HLH
    go_wp2_with fail
    go_loopw [5, 7] (fun l i wr => ∃ (k : Nat) (vk : Value) (Lk : List (Int × Int)), k ≤ ts.length ∧ i = .int .i64 k ∧ l = vk ∧ Hid (Lk = ([(t.kind, t.idx)] : List (Int × Int)) ++ viss (headsT (d + 1) (b + bn) (ts.take k))) ∧ wr.ownsRow (N + 1) 24 2 vk Lk.length (hcs Lk) ∧ (Lk = [] → vk = .slice none 0 0) ∧ Blk wr N 27 #[.slice x1 bn x2, .int .i64 t.kind, .int .i64 t.idx, .slice a ts.length cap] ∧ Below N w wr)
      (fun _ i _ => ts.length - (intOf i).toNat)
    case atStart => exact ⟨0, _, [(t.kind, t.idx)], Nat.zero_le _, rfl, rfl, by show _ = _; simp [headsT, viss], by simpa [hcs] using hrow0, fun e => by simp at e, b3, bl3⟩
    case round =>
      clear hrow0 b3 bl3
      obtain ⟨k, vk, Lk, hk, rfl, rfl, HK, hrk, hnk, bk, hbl⟩ := hrel
      have r3 := bk.cell 3
      have hMw : N + 1 ≤ wr.heap.size := bk.lt
      have hlk : Lk.length ≤ 1 + sizeT (ts.take k) := by
        rw [HK.out, List.length_append]
        simp only [List.length_cons, List.length_nil]
        have := viss_length (headsT (d + 1) (b + bn) (ts.take k))
        rw [headsT_len2] at this
        omega
      have hle0 := sizeT_take_le' ts k
      have hst9 := sizeT_le_totalT ts (fun t _ => t.size_le_total)
      by_cases hlt : k < ts.length
      · obtain ⟨u, hu⟩ : ∃ u, ts[k]? = some u := ⟨_, List.getElem?_eq_getElem hlt⟩
        obtain ⟨g, o, s, r, rfl, hg, hgl, q0, q1, q2, q3, hs, hr⟩ := HA.out k u hu
        have hbw : Below w.heap.size w wr := by rw [HN.out]; exact hbl
        have a0 := (cat hbw hgl).trans q0
        have a1 := (cat hbw hgl).trans q1
        have a2 := (cat hbw hgl).trans q2
        have a3 := (cat hbw hgl).trans q3
        have hm := List.mem_of_getElem? hu
        have hus := total_mem hm
        have y1 : (0 : Int) ≤ (k : Int) := by omega
        have y2 : (k : Int) < (ts.length : Int) := by omega
        have hcall := ih u hm (d + 1) (b + bn) ok s r wr (hs.bel hbw) (hr.bel hbw) (by omega) (by omega) (HRT.out u hm)
        have HK2 : Hid (Lk ++ viss (u.heads (d + 1) (b + bn)) = ([(t.kind, t.idx)] : List (Int × Int)) ++ viss (headsT (d + 1) (b + bn) (ts.take (k + 1)))) := by show _ = _; rw [HK.out, headsT_take2 hu, viss_append, List.append_assoc]
        have hlu := viss_length (u.heads (d + 1) (b + bn))
        rw [u.heads_length] at hlu
        have huz := u.size_le_total
        obtain ⟨Lu, hLu⟩ : ∃ L, viss (u.heads (d + 1) (b + bn)) = L := ⟨_, rfl⟩
        rw [hLu] at hcall HK2 hlu
        rw [show ((b + bn : Nat) : Int) = (b : Int) + (bn : Int) by omega] at hcall
        have hNw : N ≤ wr.heap.size := by omega
        obtain ⟨sa, sc, rfl, _⟩ := hs.shape
        obtain ⟨ra, rc, rfl, _⟩ := hr.shape
        generalize u.binds.length = un at *
        generalize u.args.length = ul at *
        obtain ⟨n, hn⟩ : ∃ n, Lk.length = n := ⟨_, rfl⟩
        obtain ⟨m, hm2⟩ : ∃ m, Lu.length = m := ⟨_, rfl⟩
        rw [hn] at hrk hlk
        rw [hm2] at hcall hlu
        have HLN : Hid (Lk.length = n) := hn
        have HLM : Hid (Lu.length = m) := hm2
        have HNK : Hid _ := hnk
        have hnb : n ≤ 200000 := by omega
        have hmb : m ≤ 200000 := by omega
        clear q0 q1 q2 q3 hu ih hs hr hLu hn hm2 hnk hlk hlu huz hus hle0 hst9
        go_wp2_with fail
        refine hcall.mono ?_
        clear hcall
        rintro e wc ⟨v2, rfl, hr2, hn2, hbc⟩
        have hrkc := row_bel hrk hbc
        have bkc := bk.below hbc bk.lt
        have hblc : Below N w wc := hbl.trans (hbc.mono hNw)
        have hMc : N + 1 ≤ wc.heap.size := bkc.lt
        clear hrk bk hbl r3 a0 a1 a2 a3
        by_cases hm0 : m = 0
        · have hLu0 : Lu = [] := List.eq_nil_of_length_eq_zero (by rw [HLM.out]; exact hm0)
          rw [hn2 hLu0]
          have HK3 : Hid (Lk = ([(t.kind, t.idx)] : List (Int × Int)) ++ viss (headsT (d + 1) (b + bn) (ts.take (k + 1)))) := by show _ = _; rw [← HK2.out, hLu0, List.append_nil]
          clear hn2 hr2 hLu0 hm0
          go_wp2_with (at_builtin; refine wpList_append_own_none rfl _ _ 105 rfl (N + 1) 24 j0 2 Try.underlying105 hj _ n (hcs Lk) rfl hrkc rfl ?_)
          go_roundw
          case rel => exact ⟨k + 1, _, Lk, by omega, by go_num, rfl, HK3, by rw [HLN.out]; exact hrkc, HNK.out, bkc, hblc⟩
          case measure => simp [intOf]; omega
        · obtain ⟨g2, c2, rfl, hg2, hgl2⟩ := hr2.form (by omega)
          have p3 : 0 < m := by omega
          clear hn2 hm0
          go_wp2_with (at_builtin; refine wpList_append_lies _ rfl _ _ 105 rfl (N + 1) 24 j0 (.agg #[.int .i64 0, .int .i64 0]) 2 16 Try.underlying105 hj hy0 hy1 hy2 rfl (by decide) _ n (hcs Lk) rfl hrkc ⟨g2, 0, none⟩ m c2 (hcs Lu) rfl (by rw [hcs_length, HLM.out]) (hr2.cells rfl) (one_hcs _) p3 (by unfold maxLen; omega) (by omega) hMc _ rfl ?_; intro g4 cap4 w4 hown4 hgrow4 hat4 hlt4)
          have bk4 := bkc.kept hgrow4 (fun e => by have := (hrkc.lt N e.symm).1; omega)
          have hbl4 : Below N w w4 := hblc.grown hgrow4 (by omega) (fun j hj => by have := (hrkc.lt j hj).1; omega)
          have hll : (Lk ++ Lu).length = n + m := by rw [List.length_append, HLN.out, HLM.out]
          rw [← hcs_append] at hown4
          go_roundw
          case rel => exact ⟨k + 1, _, Lk ++ Lu, by omega, by go_num, rfl, HK2.out, by rw [hll]; exact hown4, fun e => by rw [e] at hll; simp at hll; omega, bk4, hbl4⟩
          case measure => simp [intOf]; omega
      · obtain rfl : k = ts.length := by omega
        rw [List.take_length] at HK
        go_wp2
        go_ret
        rw [← HWI.out] at HK
        refine ⟨_, rfl, ?_, ?_, hbl⟩
        · rw [← HK.out]; exact row_mono hrk (by omega)
        · rw [← HK.out]; exact hnk
  | false =>
    cases uv with
    | true =>
      have HL := HL2.out rfl rfl
      have HLH : Hid _ := HL
      have hge := HUV.out
      rw [decide_eq_true_iff] at hge
      clear HL HL1 HL2 HL3
      go_wp2_with (at_builtin; refine wpList_append_lies _ rfl _ _ 105 rfl (N + 1) 24 j0 (.agg #[.int .i64 0, .int .i64 0]) 2 16 Try.underlying105 hj hy0 hy1 hy2 rfl (by decide) _ 0 [] rfl ((World.ownsRow_nil _ _ _ _)) ⟨N + 1, 0, none⟩ 1 1 [.int .i64 0, .int .i64 (t.idx - ((b : Int) + (bn : Int)))] rfl rfl (cell_two _ (N + 1) (by simp [hz1]) _ _ _) (by simp [Value.oneCell']) (by omega) (by unfold maxLen; omega) (by omega) (by simp [hz1]) _ rfl ?_; intro g2 cap2 w2 hown2 hgrow2 hat2 hlt2)
      have hg3 : World.grownBy _ w2 none := hgrow2
      have b3 := (b1.alloc (.cells #[.int .i64 0, .int .i64 (t.idx - ((b : Int) + (bn : Int)))] 24)).kept hg3 (by simp)
      have bl3 := (bl1.alloc (by omega) (.cells #[.int .i64 0, .int .i64 (t.idx - ((b : Int) + (bn : Int)))] 24)).grown hg3 (by simp; omega) (fun j hj => by cases hj)
      have hrow0 := hown2
      obtain ⟨W2, rfl⟩ : ∃ W, W = w2 := ⟨_, rfl⟩
      rw [HLH.out] at HWI
      clear hown2 hgrow2 hat2 hlt2 hg3 b1 bl1 c1 c2 hz1 HTV HUV HLH hge
      go_wp2_with fail
      go_loopw [5, 7] (fun l i wr => ∃ (k : Nat) (vk : Value) (Lk : List (Int × Int)), k ≤ ts.length ∧ i = .int .i64 k ∧ l = vk ∧ Hid (Lk = ([(0, t.idx - ((b : Int) + (bn : Int)))] : List (Int × Int)) ++ viss (headsT (d + 1) (b + bn) (ts.take k))) ∧ wr.ownsRow (N + 1) 24 2 vk Lk.length (hcs Lk) ∧ (Lk = [] → vk = .slice none 0 0) ∧ Blk wr N 27 #[.slice x1 bn x2, .int .i64 t.kind, .int .i64 t.idx, .slice a ts.length cap] ∧ Below N w wr)
        (fun _ i _ => ts.length - (intOf i).toNat)
      case atStart => exact ⟨0, _, [(0, t.idx - ((b : Int) + (bn : Int)))], Nat.zero_le _, rfl, rfl, by show _ = _; simp [headsT, viss], by simpa [hcs] using hrow0, fun e => by simp at e, b3, bl3⟩
      case round =>
        clear hrow0 b3 bl3
        obtain ⟨k, vk, Lk, hk, rfl, rfl, HK, hrk, hnk, bk, hbl⟩ := hrel
        have r3 := bk.cell 3
        have hMw : N + 1 ≤ wr.heap.size := bk.lt
        have hlk : Lk.length ≤ 1 + sizeT (ts.take k) := by
          rw [HK.out, List.length_append]
          simp only [List.length_cons, List.length_nil]
          have := viss_length (headsT (d + 1) (b + bn) (ts.take k))
          rw [headsT_len2] at this
          omega
        have hle0 := sizeT_take_le' ts k
        have hst9 := sizeT_le_totalT ts (fun t _ => t.size_le_total)
        by_cases hlt : k < ts.length
        · obtain ⟨u, hu⟩ : ∃ u, ts[k]? = some u := ⟨_, List.getElem?_eq_getElem hlt⟩
          obtain ⟨g, o, s, r, rfl, hg, hgl, q0, q1, q2, q3, hs, hr⟩ := HA.out k u hu
          have hbw : Below w.heap.size w wr := by rw [HN.out]; exact hbl
          have a0 := (cat hbw hgl).trans q0
          have a1 := (cat hbw hgl).trans q1
          have a2 := (cat hbw hgl).trans q2
          have a3 := (cat hbw hgl).trans q3
          have hm := List.mem_of_getElem? hu
          have hus := total_mem hm
          have y1 : (0 : Int) ≤ (k : Int) := by omega
          have y2 : (k : Int) < (ts.length : Int) := by omega
          have hcall := ih u hm (d + 1) (b + bn) ok s r wr (hs.bel hbw) (hr.bel hbw) (by omega) (by omega) (HRT.out u hm)
          have HK2 : Hid (Lk ++ viss (u.heads (d + 1) (b + bn)) = ([(0, t.idx - ((b : Int) + (bn : Int)))] : List (Int × Int)) ++ viss (headsT (d + 1) (b + bn) (ts.take (k + 1)))) := by show _ = _; rw [HK.out, headsT_take2 hu, viss_append, List.append_assoc]
          have hlu := viss_length (u.heads (d + 1) (b + bn))
          rw [u.heads_length] at hlu
          have huz := u.size_le_total
          obtain ⟨Lu, hLu⟩ : ∃ L, viss (u.heads (d + 1) (b + bn)) = L := ⟨_, rfl⟩
          rw [hLu] at hcall HK2 hlu
          rw [show ((b + bn : Nat) : Int) = (b : Int) + (bn : Int) by omega] at hcall
          have hNw : N ≤ wr.heap.size := by omega
          obtain ⟨sa, sc, rfl, _⟩ := hs.shape
          obtain ⟨ra, rc, rfl, _⟩ := hr.shape
          generalize u.binds.length = un at *
          generalize u.args.length = ul at *
          obtain ⟨n, hn⟩ : ∃ n, Lk.length = n := ⟨_, rfl⟩
          obtain ⟨m, hm2⟩ : ∃ m, Lu.length = m := ⟨_, rfl⟩
          rw [hn] at hrk hlk
          rw [hm2] at hcall hlu
          have HLN : Hid (Lk.length = n) := hn
          have HLM : Hid (Lu.length = m) := hm2
          have HNK : Hid _ := hnk
          have hnb : n ≤ 200000 := by omega
          have hmb : m ≤ 200000 := by omega
          clear q0 q1 q2 q3 hu ih hs hr hLu hn hm2 hnk hlk hlu huz hus hle0 hst9
          go_wp2_with fail
          refine hcall.mono ?_
          clear hcall
          rintro e wc ⟨v2, rfl, hr2, hn2, hbc⟩
          have hrkc := row_bel hrk hbc
          have bkc := bk.below hbc bk.lt
          have hblc : Below N w wc := hbl.trans (hbc.mono hNw)
          have hMc : N + 1 ≤ wc.heap.size := bkc.lt
          clear hrk bk hbl r3 a0 a1 a2 a3
          by_cases hm0 : m = 0
          · have hLu0 : Lu = [] := List.eq_nil_of_length_eq_zero (by rw [HLM.out]; exact hm0)
            rw [hn2 hLu0]
            have HK3 : Hid (Lk = ([(0, t.idx - ((b : Int) + (bn : Int)))] : List (Int × Int)) ++ viss (headsT (d + 1) (b + bn) (ts.take (k + 1)))) := by show _ = _; rw [← HK2.out, hLu0, List.append_nil]
            clear hn2 hr2 hLu0 hm0
            go_wp2_with (at_builtin; refine wpList_append_own_none rfl _ _ 105 rfl (N + 1) 24 j0 2 Try.underlying105 hj _ n (hcs Lk) rfl hrkc rfl ?_)
            go_roundw
            case rel => exact ⟨k + 1, _, Lk, by omega, by go_num, rfl, HK3, by rw [HLN.out]; exact hrkc, HNK.out, bkc, hblc⟩
            case measure => simp [intOf]; omega
          · obtain ⟨g2, c2, rfl, hg2, hgl2⟩ := hr2.form (by omega)
            have p3 : 0 < m := by omega
            clear hn2 hm0
            go_wp2_with (at_builtin; refine wpList_append_lies _ rfl _ _ 105 rfl (N + 1) 24 j0 (.agg #[.int .i64 0, .int .i64 0]) 2 16 Try.underlying105 hj hy0 hy1 hy2 rfl (by decide) _ n (hcs Lk) rfl hrkc ⟨g2, 0, none⟩ m c2 (hcs Lu) rfl (by rw [hcs_length, HLM.out]) (hr2.cells rfl) (one_hcs _) p3 (by unfold maxLen; omega) (by omega) hMc _ rfl ?_; intro g4 cap4 w4 hown4 hgrow4 hat4 hlt4)
            have bk4 := bkc.kept hgrow4 (fun e => by have := (hrkc.lt N e.symm).1; omega)
            have hbl4 : Below N w w4 := hblc.grown hgrow4 (by omega) (fun j hj => by have := (hrkc.lt j hj).1; omega)
            have hll : (Lk ++ Lu).length = n + m := by rw [List.length_append, HLN.out, HLM.out]
            rw [← hcs_append] at hown4
            go_roundw
            case rel => exact ⟨k + 1, _, Lk ++ Lu, by omega, by go_num, rfl, HK2.out, by rw [hll]; exact hown4, fun e => by rw [e] at hll; simp at hll; omega, bk4, hbl4⟩
            case measure => simp [intOf]; omega
        · obtain rfl : k = ts.length := by omega
          rw [List.take_length] at HK
          go_wp2
          go_ret
          rw [← HWI.out] at HK
          refine ⟨_, rfl, ?_, ?_, hbl⟩
          · rw [← HK.out]; exact row_mono hrk (by omega)
          · rw [← HK.out]; exact hnk
    | false =>
      have HL := HL3.out rfl rfl
      have HLH : Hid _ := HL
      clear HL HL1 HL2 HL3
      rw [HLH.out] at HWI
      go_wp2_with fail
      clear c1 c2 hz1 HTV HUV HLH
      go_loopw [5, 7] (fun l i wr => ∃ (k : Nat) (vk : Value) (Lk : List (Int × Int)), k ≤ ts.length ∧ i = .int .i64 k ∧ l = vk ∧ Hid (Lk = ([] : List (Int × Int)) ++ viss (headsT (d + 1) (b + bn) (ts.take k))) ∧ wr.ownsRow (N + 1) 24 2 vk Lk.length (hcs Lk) ∧ (Lk = [] → vk = .slice none 0 0) ∧ Blk wr N 27 #[.slice x1 bn x2, .int .i64 t.kind, .int .i64 t.idx, .slice a ts.length cap] ∧ Below N w wr)
        (fun _ i _ => ts.length - (intOf i).toNat)
      case atStart => exact ⟨0, _, [], Nat.zero_le _, rfl, rfl, by show _ = _; simp [headsT, viss], World.ownsRow_nil _ _ _ _, fun _ => rfl, b1, bl1⟩
      case round =>
        clear b1 bl1
        obtain ⟨k, vk, Lk, hk, rfl, rfl, HK, hrk, hnk, bk, hbl⟩ := hrel
        have r3 := bk.cell 3
        have hMw : N + 1 ≤ wr.heap.size := bk.lt
        have hlk : Lk.length ≤ 1 + sizeT (ts.take k) := by
          rw [HK.out, List.length_append]
          simp only [List.length_nil]
          have := viss_length (headsT (d + 1) (b + bn) (ts.take k))
          rw [headsT_len2] at this
          omega
        have hle0 := sizeT_take_le' ts k
        have hst9 := sizeT_le_totalT ts (fun t _ => t.size_le_total)
        by_cases hlt : k < ts.length
        · obtain ⟨u, hu⟩ : ∃ u, ts[k]? = some u := ⟨_, List.getElem?_eq_getElem hlt⟩
          obtain ⟨g, o, s, r, rfl, hg, hgl, q0, q1, q2, q3, hs, hr⟩ := HA.out k u hu
          have hbw : Below w.heap.size w wr := by rw [HN.out]; exact hbl
          have a0 := (cat hbw hgl).trans q0
          have a1 := (cat hbw hgl).trans q1
          have a2 := (cat hbw hgl).trans q2
          have a3 := (cat hbw hgl).trans q3
          have hm := List.mem_of_getElem? hu
          have hus := total_mem hm
          have y1 : (0 : Int) ≤ (k : Int) := by omega
          have y2 : (k : Int) < (ts.length : Int) := by omega
          have hcall := ih u hm (d + 1) (b + bn) ok s r wr (hs.bel hbw) (hr.bel hbw) (by omega) (by omega) (HRT.out u hm)
          have HK2 : Hid (Lk ++ viss (u.heads (d + 1) (b + bn)) = ([] : List (Int × Int)) ++ viss (headsT (d + 1) (b + bn) (ts.take (k + 1)))) := by show _ = _; rw [HK.out, headsT_take2 hu, viss_append, List.append_assoc]
          have hlu := viss_length (u.heads (d + 1) (b + bn))
          rw [u.heads_length] at hlu
          have huz := u.size_le_total
          obtain ⟨Lu, hLu⟩ : ∃ L, viss (u.heads (d + 1) (b + bn)) = L := ⟨_, rfl⟩
          rw [hLu] at hcall HK2 hlu
          rw [show ((b + bn : Nat) : Int) = (b : Int) + (bn : Int) by omega] at hcall
          have hNw : N ≤ wr.heap.size := by omega
          obtain ⟨sa, sc, rfl, _⟩ := hs.shape
          obtain ⟨ra, rc, rfl, _⟩ := hr.shape
          generalize u.binds.length = un at *
          generalize u.args.length = ul at *
          obtain ⟨n, hn⟩ : ∃ n, Lk.length = n := ⟨_, rfl⟩
          obtain ⟨m, hm2⟩ : ∃ m, Lu.length = m := ⟨_, rfl⟩
          rw [hn] at hrk hlk
          rw [hm2] at hcall hlu
          have HLN : Hid (Lk.length = n) := hn
          have HLM : Hid (Lu.length = m) := hm2
          have HNK : Hid _ := hnk
          have hnb : n ≤ 200000 := by omega
          have hmb : m ≤ 200000 := by omega
          clear q0 q1 q2 q3 hu ih hs hr hLu hn hm2 hnk hlk hlu huz hus hle0 hst9
          go_wp2_with fail
          refine hcall.mono ?_
          clear hcall
          rintro e wc ⟨v2, rfl, hr2, hn2, hbc⟩
          have hrkc := row_bel hrk hbc
          have bkc := bk.below hbc bk.lt
          have hblc : Below N w wc := hbl.trans (hbc.mono hNw)
          have hMc : N + 1 ≤ wc.heap.size := bkc.lt
          clear hrk bk hbl r3 a0 a1 a2 a3
          by_cases hm0 : m = 0
          · have hLu0 : Lu = [] := List.eq_nil_of_length_eq_zero (by rw [HLM.out]; exact hm0)
            rw [hn2 hLu0]
            have HK3 : Hid (Lk = ([] : List (Int × Int)) ++ viss (headsT (d + 1) (b + bn) (ts.take (k + 1)))) := by show _ = _; rw [← HK2.out, hLu0, List.append_nil]
            clear hn2 hr2 hLu0 hm0
            go_wp2_with (at_builtin; refine wpList_append_own_none rfl _ _ 105 rfl (N + 1) 24 j0 2 Try.underlying105 hj _ n (hcs Lk) rfl hrkc rfl ?_)
            go_roundw
            case rel => exact ⟨k + 1, _, Lk, by omega, by go_num, rfl, HK3, by rw [HLN.out]; exact hrkc, HNK.out, bkc, hblc⟩
            case measure => simp [intOf]; omega
          · obtain ⟨g2, c2, rfl, hg2, hgl2⟩ := hr2.form (by omega)
            have p3 : 0 < m := by omega
            clear hn2 hm0
            go_wp2_with (at_builtin; refine wpList_append_lies _ rfl _ _ 105 rfl (N + 1) 24 j0 (.agg #[.int .i64 0, .int .i64 0]) 2 16 Try.underlying105 hj hy0 hy1 hy2 rfl (by decide) _ n (hcs Lk) rfl hrkc ⟨g2, 0, none⟩ m c2 (hcs Lu) rfl (by rw [hcs_length, HLM.out]) (hr2.cells rfl) (one_hcs _) p3 (by unfold maxLen; omega) (by omega) hMc _ rfl ?_; intro g4 cap4 w4 hown4 hgrow4 hat4 hlt4)
            have bk4 := bkc.kept hgrow4 (fun e => by have := (hrkc.lt N e.symm).1; omega)
            have hbl4 : Below N w w4 := hblc.grown hgrow4 (by omega) (fun j hj => by have := (hrkc.lt j hj).1; omega)
            have hll : (Lk ++ Lu).length = n + m := by rw [List.length_append, HLN.out, HLM.out]
            rw [← hcs_append] at hown4
            go_roundw
            case rel => exact ⟨k + 1, _, Lk ++ Lu, by omega, by go_num, rfl, HK2.out, by rw [hll]; exact hown4, fun e => by rw [e] at hll; simp at hll; omega, bk4, hbl4⟩
            case measure => simp [intOf]; omega
        · obtain rfl : k = ts.length := by omega
          rw [List.take_length] at HK
          go_wp2
          go_ret
          rw [← HWI.out] at HK
          refine ⟨_, rfl, ?_, ?_, hbl⟩
          · rw [← HK.out]; exact row_mono hrk (by omega)
          · rw [← HK.out]; exact hnk

end Go.Proofs.Ytheokboggjnenaa
