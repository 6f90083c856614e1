/-
  FewQ: several texts in one file: FewT, FewQ.
-/
import Derived.Test.YtckagmagjogmnaaHeadsS
import Derived.Test.YtckagmagjogmnaaFew
import Derived.Test.YtckagmagjogmnaaFewR
import Derived.Test.YtckagmagjogmnaaHdTy
import Derived.Test.YtckagmagjogmnaaSize
namespace Go.Proofs.Ytckagmagjogmnaa
open Go Go.RowKit

/-- Few terms and types, and not deep. -/
def FewOkQ (most d : Nat) (t : Tm) : Prop := t.total ≤ most ∧ t.deep ≤ d
theorem totalT_take {ts : List Tm} {k : Nat} {t : Tm} (h : ts[k]? = some t) : totalT (ts.take (k + 1)) = totalT (ts.take k) + t.total := by
  rw [List.take_add_one, h, totalT_append]; simp [totalT]
theorem totalT_take_le (ts : List Tm) (k : Nat) : totalT (ts.take k) ≤ totalT ts := by
  conv => rhs; rw [← List.take_append_drop k ts, totalT_append]
  omega
theorem deepT_append (a b : List Tm) : deepT (a ++ b) = max (deepT a) (deepT b) := by
  induction a with
  | nil => simp [deepT]
  | cons t a ih => simp only [List.cons_append, deepT, ih]; omega
theorem deepT_take {ts : List Tm} {k : Nat} {t : Tm} (h : ts[k]? = some t) : deepT (ts.take (k + 1)) = max (deepT (ts.take k)) t.deep := by
  rw [List.take_add_one, h, deepT_append]; simp [deepT]
theorem deepT_mem {a : List Tm} {t : Tm} (h : t ∈ a) : t.deep ≤ deepT a := by
  induction a with
  | nil => cases h
  | cons u a ih =>
    simp only [deepT]
    rcases List.mem_cons.1 h with rfl | h
    · omega
    · have := ih h; omega
theorem depthL_take_le' (ts : List Ty) (k : Nat) : depthL (ts.take k) ≤ depthL ts := by
  conv => rhs; rw [← List.take_append_drop k ts, depthL_append]
  omega

theorem few_bad_bind {most d : Nat} {t : Tm} {u : Ty} (hu : u ∈ t.binds) (h : fewB most d u = false) : ¬ FewOkQ most d t := fun ⟨h1, h2⟩ => by
  have a := size_mem hu
  have b := depth_mem hu
  rw [t.total_eq] at h1
  rw [t.deep_eq] at h2
  unfold fewB at h
  simp at h
  have := h (by omega)
  omega

set_option maxRecDepth 100000 in
set_option maxHeartbeats 1600000 in
theorem few06_calls (most : Nat) (hmost : most ≤ 1000) (d : Nat) : ∀ (t : Tm) (m : Int) (ok : Nat → Prop) (sb sl : Value) (w : World), m = d → d ≤ 70 → Holds w ok t.binds sb → HoldsT w ok t.args sl →
    Calls Try.prog 84 #[tmv sb t.kind t.idx sl, .int .i64 (most : Int), .int .i64 m] w fun e w' => ∃ n : Nat, e = .returned (.int .i64 (n : Int)) ∧ (n ≤ most ↔ FewOkQ most d t) ∧ (n ≤ most → n = t.total) ∧ n ≤ 2000 * (d + 2) ∧ Below w.heap.size w w' := by
  induction d with
  | zero =>
    intro t m ok sb sl w hm hd hb ha
    obtain rfl : m = 0 := by omega
    clear hm
    obtain ⟨a, cap, rfl, _⟩ := hb.shape
    obtain ⟨a', cap', rfl, _⟩ := ha.shape
    have hpos := t.deep_pos
    have hN : Hid (¬ FewOkQ most 0 t) := fun h => by have := h.2; omega
    obtain ⟨N, hN2⟩ : ∃ N, w.heap.size = N := ⟨_, rfl⟩
    rw [hN2]
    generalize t.binds.length = bn
    generalize t.args.length = an
    have hB : Below N w (w.alloc (.cells #[.slice a bn cap, .int .i64 t.kind, .int .i64 t.idx, .slice a' an cap'] 71)) := (Below.refl N w).alloc (by omega) _
    go_enter Try.func84, Try.ntmps84
    go_wp2
    go_ret
    exact ⟨most + 1, by go_num, ⟨fun h => by omega, fun h => absurd h hN.out⟩, fun h => by omega, by omega, hB⟩
  | succ d ih =>
    intro t m ok sb sl w hm hd hb ha
    have HM : Hid (m = ((d + 1 : Nat) : Int)) := hm
    have hm1 : 1 ≤ m := by omega
    have hm2 : m ≤ 70 := by omega
    clear hm
    obtain ⟨bs, hbs⟩ : ∃ bs, t.binds = bs := ⟨_, rfl⟩
    obtain ⟨ts, hts⟩ : ∃ ts, t.args = ts := ⟨_, rfl⟩
    have htot := t.total_eq
    have hdep := t.deep_eq
    have HBad : Hid (∀ u ∈ t.binds, fewB most (d + 1) u = false → ¬ FewOkQ most (d + 1) t) := fun u hu h => few_bad_bind hu h
    rw [hbs] at hb htot hdep HBad
    rw [hts] at ha htot hdep
    have HT : Hid _ := htot
    have HD : Hid _ := hdep
    have hh := hb
    obtain ⟨a, cap, rfl, hcap, hat⟩ := hb.shape
    have HA : Hid _ := hat
    obtain ⟨a', cap', rfl, hcap', hat'⟩ := ha.shape
    have HA' : Hid _ := hat'
    obtain ⟨nb, hnb⟩ : ∃ nb, bs.length = nb := ⟨_, rfl⟩
    obtain ⟨na, hna⟩ : ∃ na, ts.length = na := ⟨_, rfl⟩
    have HNB : Hid (bs.length = nb) := hnb
    have HNA : Hid (ts.length = na) := hna
    rw [hnb] at hcap ⊢
    rw [hna] at hcap' ⊢
    clear hat hat' hb ha hh htot hdep hnb hna
    obtain ⟨N, hN⟩ : ∃ N, w.heap.size = N := ⟨_, rfl⟩
    have HN : Hid (w.heap.size = N) := hN
    have z0 : decide (m ≤ 0) = false := by rw [decide_eq_false_iff_not]; omega
    rw [hN]
    obtain ⟨w0, hw0⟩ : ∃ w0, w.alloc (.cells #[.slice a nb cap, .int .i64 t.kind, .int .i64 t.idx, .slice a' na cap'] 71) = w0 := ⟨_, rfl⟩
    have b0 : Blk w0 N 71 #[.slice a nb cap, .int .i64 t.kind, .int .i64 t.idx, .slice a' na cap'] := by rw [← hw0]; exact Blk.new' w N 71 _ hN
    have bl0 : Below N w w0 := by rw [← hw0]; exact (Below.refl N w).alloc (by omega) _
    go_enter Try.func84, Try.ntmps84
    go_wp2_with fail
    clear hw0 hN
    go_loopw [7, 8] (fun x i wr => ∃ k : Nat, k ≤ nb ∧ i = .int .i64 k ∧ x = .int .i64 ((1 + sizeL (bs.take k) : Nat) : Int) ∧ 1 + sizeL (bs.take k) ≤ 2001 ∧ Hid (depthL (bs.take k) ≤ d + 1) ∧ Blk wr N 71 #[.slice a nb cap, .int .i64 t.kind, .int .i64 t.idx, .slice a' na cap'] ∧ Below N w wr) (fun _ i _ => nb - (intOf i).toNat)
    case atStart => exact ⟨0, Nat.zero_le _, rfl, by simp [sizeL], by simp [sizeL], by show _ ≤ _; simp [depthL], b0, bl0⟩
    case round =>
      clear b0 bl0
      obtain ⟨k, hk, rfl, rfl, hle, HDK, hb, hbl⟩ := hrel
      have r0 := hb.cell 0
      have r3 := hb.cell 3
      have lN := hb.lt
      have hls := sizeL_take_le bs k
      obtain ⟨x, hx⟩ : ∃ x, 1 + sizeL (bs.take k) = x := ⟨_, rfl⟩
      have HX : Hid (1 + sizeL (bs.take k) = x) := hx
      rw [hx] at hle ⊢
      by_cases hlt : k < nb ∧ x ≤ most
      · obtain ⟨hlt, hxm⟩ := hlt
        obtain ⟨u, hu⟩ : ∃ u, bs[k]? = some u := ⟨_, List.getElem?_eq_getElem (by rw [HNB.out]; exact hlt)⟩
        obtain ⟨g, o, s, rfl, _, hg, a0, a1, hs⟩ := HA.out k u hu
        rw [HN.out] at hg
        have q0 := (cat hbl hg).trans a0
        have q1 := (cat hbl hg).trans a1
        have hm := List.mem_of_getElem? hu
        have y1 : (0 : Int) ≤ (k : Int) := by omega
        have y2 : (k : Int) < (nb : Int) := by omega
        have z1 : decide ((k : Int) < (nb : Int)) = true := by simp; omega
        have z2 : decide ((x : Int) ≤ (most : Int)) = true := by simp; omega
        have z3 : decide (x ≤ most) = true := by simp; omega
        have hs2 : Holds wr ok u.args s := hs.bel (by rw [HN.out]; exact hbl)
        have hS : Hid (sizeL (bs.take (k + 1)) = sizeL (bs.take k) + u.size) := sizeL_take hu
        have hDD : Hid (depthL (bs.take (k + 1)) = max (depthL (bs.take k)) u.depth) := depthL_take hu
        have hFw : Calls Try.prog 49 #[tv s u.base, .int .i64 (most : Int), .int .i64 m] wr fun e w' => e = .returned (.bool (fewB most (d + 1) u)) ∧ Below wr.heap.size wr w' := by rw [HM.out]; exact Few_calls most hmost (d + 1) hd u ok s wr hs2
        have hkm : k ≤ 1000 := by
          have h1 := sizeL_length (bs.take k)
          rw [List.length_take, HNB.out] at h1
          omega
        have HFB : Hid (fewB most (d + 1) u = true → u.size ≤ most ∧ u.depth ≤ d + 1) := fun h => by unfold fewB at h; simpa using h
        have HBU : Hid (fewB most (d + 1) u = false → ¬ FewOkQ most (d + 1) t) := fun h => HBad.out u hm h
        generalize fewB most (d + 1) u = fb at *
        clear a0 a1 hu hs hx
        go_wp2_with fail
        refine hFw.mono ?_
        rintro e w1 ⟨rfl, hb1⟩
        have k1 := hb.below hb1 hb.lt
        have B1 : Below N w w1 := hbl.trans (hb1.mono (by omega))
        cases fb with
        | false =>
          go_wp2
          go_ret
          exact ⟨most + 1, by go_num, ⟨fun h => by omega, fun h => absurd h (HBU.out (by first | rfl | trivial))⟩, fun h => by omega, by omega, B1⟩
        | true =>
          have hf := HFB.out rfl
          have r1 := k1.cell 0
          have c0 := (cat hb1 (Nat.lt_of_lt_of_le (by omega) (Nat.le_of_lt lN))).trans q0
          have c1 := (cat hb1 (Nat.lt_of_lt_of_le (by omega) (Nat.le_of_lt lN))).trans q1
          have hSz := Size_calls u ok s w1 (hs2.bel hb1) (by omega)
          clear hb hFw hb1 r0 q0 q1
          go_wp2_with fail
          refine hSz.mono ?_
          rintro e w2 ⟨rfl, hb2⟩
          have k2 := k1.below hb2 k1.lt
          have B2 : Below N w w2 := B1.trans (hb2.mono (by have := k1.lt; omega))
          go_wp2
          go_roundw
          case rel => exact ⟨k + 1, by omega, by go_num, by rw [hS.out]; have := HX.out; go_num, by rw [hS.out]; have := HX.out; omega, by show _ ≤ _; rw [hDD.out]; have := HDK.out; omega, k2, B2⟩
          case measure => simp [intOf]; omega
      · have hout : Hid ((x ≤ most → x = 1 + sizeL bs ∧ depthL bs ≤ d + 1) ∧ (most < x → ¬ FewOkQ most (d + 1) t)) := by
          refine ⟨fun h => ?_, fun h hf => ?_⟩
          · have : k = nb := by omega
            subst this
            have e : bs.take k = bs := List.take_of_length_le (by rw [HNB.out]; exact Nat.le_refl _)
            have h1 := HX.out
            have h2 := HDK.out
            rw [e] at h1 h2
            exact ⟨h1.symm, h2⟩
          · have h1 := hf.1
            rw [HT.out] at h1
            have := HX.out
            omega
        have z2 : decide ((x : Int) ≤ (most : Int)) = decide (x ≤ most) := by rw [decide_eq_decide]; omega
        obtain ⟨dx, hdx⟩ : ∃ dx, decide (x ≤ most) = dx := ⟨_, rfl⟩
        rw [hdx] at z2
        have tail : Hid True := trivial
        clear hx hls HDK tail
        by_cases hkb : k < nb
        · have z1 : decide ((k : Int) < (nb : Int)) = true := by simp; omega
          obtain rfl : dx = false := by rw [← hdx]; simp; omega
          go_wp2_with fail
          go_loopw [7, 9] (fun y i wr => ∃ (k n : Nat), k ≤ na ∧ i = .int .i64 k ∧ y = .int .i64 (n : Int) ∧ n ≤ 2000 * (d + 3) ∧ Hid ((n ≤ most → n = 1 + sizeL bs + totalT (ts.take k) ∧ deepT (ts.take k) ≤ d ∧ depthL bs ≤ d + 1) ∧ (most < n → ¬ FewOkQ most (d + 1) t)) ∧ Blk wr N 71 #[.slice a nb cap, .int .i64 t.kind, .int .i64 t.idx, .slice a' na cap'] ∧ Below N w wr) (fun _ i _ => na - (intOf i).toNat)
          case atStart => exact ⟨0, x, Nat.zero_le _, rfl, rfl, by omega, ⟨fun h => by obtain ⟨h1, h2⟩ := hout.out.1 h; exact ⟨by simpa [totalT] using h1, by simp [deepT], h2⟩, hout.out.2⟩, hb, hbl⟩
          case round =>
            clear hb hbl r0 r3 hout HX z1 z2 hdx
            obtain ⟨k, n, hk, rfl, rfl, hn, HI, hb, hbl⟩ := hrel
            have r3 := hb.cell 3
            have lN := hb.lt
            have hts' := totalT_take_le ts k
            by_cases hlt : k < na ∧ n ≤ most
            · obtain ⟨hlt, hnm⟩ := hlt
              obtain ⟨u, hu⟩ : ∃ u, ts[k]? = some u := ⟨_, List.getElem?_eq_getElem (by rw [HNA.out]; exact hlt)⟩
              obtain ⟨g', o', s', r', rfl, _, hg', a0, a1, a2, a3, hs', hr'⟩ := HA'.out k u hu
              rw [HN.out] at hg'
              have q0 := (cat hbl hg').trans a0
              have q1 := (cat hbl hg').trans a1
              have q2 := (cat hbl hg').trans a2
              have q3 := (cat hbl hg').trans a3
              have hmem := List.mem_of_getElem? hu
              have y1 : (0 : Int) ≤ (k : Int) := by omega
              have y2 : (k : Int) < (na : Int) := by omega
              have z1 : decide ((k : Int) < (na : Int)) = true := by simp; omega
              have z2 : decide ((n : Int) ≤ (most : Int)) = true := by simp; omega
              have z3 : decide (n ≤ most) = true := by simp; omega
              have hI := HI.out.1 hnm
              have hkm : k ≤ 1000 := by
                have h1 := totalT_length (ts.take k)
                rw [List.length_take, HNA.out] at h1
                omega
              have hw1 : IntKind.i64.wrap (m - 1) = m - 1 := by rw [IntKind.wrap_i64]; omega
              have hcall := ih u (m - 1) ok s' r' wr (by have := HM.out; omega) (by omega) (hs'.bel (by rw [HN.out]; exact hbl)) (hr'.bel (by rw [HN.out]; exact hbl))
              have HS1 : Hid (totalT (ts.take (k + 1)) = totalT (ts.take k) + u.total) := totalT_take hu
              have HS2 : Hid (deepT (ts.take (k + 1)) = max (deepT (ts.take k)) u.deep) := deepT_take hu
              have HS3 : Hid (FewOkQ most (d + 1) t → FewOkQ most d u ∧ totalT (ts.take (k + 1)) ≤ totalT ts ∧ 1 + sizeL bs + totalT ts ≤ most) := fun hf => by
                obtain ⟨f1, f2⟩ := hf
                rw [HT.out] at f1
                rw [HD.out] at f2
                have g1 := total_mem hmem
                have g2 := deepT_mem hmem
                exact ⟨⟨by omega, by omega⟩, totalT_take_le ts (k + 1), f1⟩
              have hup := u.total_pos
              obtain ⟨t1, t2, rfl, _⟩ := hs'.shape
              obtain ⟨t3, t4, rfl, _⟩ := hr'.shape
              clear a0 a1 a2 a3 hu hs' hr' HI
              go_wp2_with fail
              refine hcall.mono ?_
              rintro e w1 ⟨n', rfl, i1, i2, i3, hb1⟩
              have k1 := hb.below hb1 hb.lt
              have B1 : Below N w w1 := hbl.trans (hb1.mono (by omega))
              have HI2 : Hid ((n + n' ≤ most → n + n' = 1 + sizeL bs + totalT (ts.take (k + 1)) ∧ deepT (ts.take (k + 1)) ≤ d ∧ depthL bs ≤ d + 1) ∧ (most < n + n' → ¬ FewOkQ most (d + 1) t)) := by
                refine ⟨fun h => ?_, fun h hf => ?_⟩
                · have h1 := i2 (by omega)
                  have h2 := (i1.1 (by omega)).2
                  rw [HS1.out, HS2.out]
                  omega
                · obtain ⟨f1, f2, f3⟩ := HS3.out hf
                  have h1 := i1.2 f1
                  have h2 := i2 h1
                  rw [HS1.out] at f2
                  omega
              clear i1 i2 hI hcall HS1 HS2 HS3
              go_wp2
              go_roundw
              case rel => exact ⟨k + 1, n + n', by omega, by go_num, by go_num, by omega, HI2, k1, B1⟩
              case measure => simp [intOf]; omega
            · have hfin : Hid ((n ≤ most ↔ FewOkQ most (d + 1) t) ∧ (n ≤ most → n = t.total)) := by
                have key : n ≤ most → n = t.total ∧ FewOkQ most (d + 1) t := fun h => by
                  have : k = na := by omega
                  subst this
                  obtain ⟨h1, h2, h3⟩ := HI.out.1 h
                  have e : ts.take k = ts := List.take_of_length_le (by rw [HNA.out]; exact Nat.le_refl _)
                  rw [e] at h1 h2
                  refine ⟨by rw [HT.out]; exact h1, by rw [HT.out]; omega, by rw [HD.out]; omega⟩
                refine ⟨⟨fun h => (key h).2, fun h => ?_⟩, fun h => (key h).1⟩
                rcases Nat.lt_or_ge most n with h1 | h1
                · exact absurd h (HI.out.2 h1)
                · exact h1
              clear HI
              by_cases hka : k < na
              · have z1 : decide ((k : Int) < (na : Int)) = true := by simp; omega
                have z2 : decide ((n : Int) ≤ (most : Int)) = false := by simp; omega
                have z3 : decide (n ≤ most) = false := by simp; omega
                go_wp2
                go_ret
                exact ⟨n, rfl, hfin.out.1, hfin.out.2, by omega, hbl⟩
              · have z1 : decide ((k : Int) < (na : Int)) = false := by simp; omega
                go_wp2
                go_ret
                exact ⟨n, rfl, hfin.out.1, hfin.out.2, by omega, hbl⟩
        · have z1 : decide ((k : Int) < (nb : Int)) = false := by simp; omega
          go_wp2_with fail
          go_loopw [7, 9] (fun y i wr => ∃ (k n : Nat), k ≤ na ∧ i = .int .i64 k ∧ y = .int .i64 (n : Int) ∧ n ≤ 2000 * (d + 3) ∧ Hid ((n ≤ most → n = 1 + sizeL bs + totalT (ts.take k) ∧ deepT (ts.take k) ≤ d ∧ depthL bs ≤ d + 1) ∧ (most < n → ¬ FewOkQ most (d + 1) t)) ∧ Blk wr N 71 #[.slice a nb cap, .int .i64 t.kind, .int .i64 t.idx, .slice a' na cap'] ∧ Below N w wr) (fun _ i _ => na - (intOf i).toNat)
          case atStart => exact ⟨0, x, Nat.zero_le _, rfl, rfl, by omega, ⟨fun h => by obtain ⟨h1, h2⟩ := hout.out.1 h; exact ⟨by simpa [totalT] using h1, by simp [deepT], h2⟩, hout.out.2⟩, hb, hbl⟩
          case round =>
            clear hb hbl r0 r3 hout HX z1 z2 hdx
            obtain ⟨k, n, hk, rfl, rfl, hn, HI, hb, hbl⟩ := hrel
            have r3 := hb.cell 3
            have lN := hb.lt
            have hts' := totalT_take_le ts k
            by_cases hlt : k < na ∧ n ≤ most
            · obtain ⟨hlt, hnm⟩ := hlt
              obtain ⟨u, hu⟩ : ∃ u, ts[k]? = some u := ⟨_, List.getElem?_eq_getElem (by rw [HNA.out]; exact hlt)⟩
              obtain ⟨g', o', s', r', rfl, _, hg', a0, a1, a2, a3, hs', hr'⟩ := HA'.out k u hu
              rw [HN.out] at hg'
              have q0 := (cat hbl hg').trans a0
              have q1 := (cat hbl hg').trans a1
              have q2 := (cat hbl hg').trans a2
              have q3 := (cat hbl hg').trans a3
              have hmem := List.mem_of_getElem? hu
              have y1 : (0 : Int) ≤ (k : Int) := by omega
              have y2 : (k : Int) < (na : Int) := by omega
              have z1 : decide ((k : Int) < (na : Int)) = true := by simp; omega
              have z2 : decide ((n : Int) ≤ (most : Int)) = true := by simp; omega
              have z3 : decide (n ≤ most) = true := by simp; omega
              have hI := HI.out.1 hnm
              have hkm : k ≤ 1000 := by
                have h1 := totalT_length (ts.take k)
                rw [List.length_take, HNA.out] at h1
                omega
              have hw1 : IntKind.i64.wrap (m - 1) = m - 1 := by rw [IntKind.wrap_i64]; omega
              have hcall := ih u (m - 1) ok s' r' wr (by have := HM.out; omega) (by omega) (hs'.bel (by rw [HN.out]; exact hbl)) (hr'.bel (by rw [HN.out]; exact hbl))
              have HS1 : Hid (totalT (ts.take (k + 1)) = totalT (ts.take k) + u.total) := totalT_take hu
              have HS2 : Hid (deepT (ts.take (k + 1)) = max (deepT (ts.take k)) u.deep) := deepT_take hu
              have HS3 : Hid (FewOkQ most (d + 1) t → FewOkQ most d u ∧ totalT (ts.take (k + 1)) ≤ totalT ts ∧ 1 + sizeL bs + totalT ts ≤ most) := fun hf => by
                obtain ⟨f1, f2⟩ := hf
                rw [HT.out] at f1
                rw [HD.out] at f2
                have g1 := total_mem hmem
                have g2 := deepT_mem hmem
                exact ⟨⟨by omega, by omega⟩, totalT_take_le ts (k + 1), f1⟩
              have hup := u.total_pos
              obtain ⟨t1, t2, rfl, _⟩ := hs'.shape
              obtain ⟨t3, t4, rfl, _⟩ := hr'.shape
              clear a0 a1 a2 a3 hu hs' hr' HI
              go_wp2_with fail
              refine hcall.mono ?_
              rintro e w1 ⟨n', rfl, i1, i2, i3, hb1⟩
              have k1 := hb.below hb1 hb.lt
              have B1 : Below N w w1 := hbl.trans (hb1.mono (by omega))
              have HI2 : Hid ((n + n' ≤ most → n + n' = 1 + sizeL bs + totalT (ts.take (k + 1)) ∧ deepT (ts.take (k + 1)) ≤ d ∧ depthL bs ≤ d + 1) ∧ (most < n + n' → ¬ FewOkQ most (d + 1) t)) := by
                refine ⟨fun h => ?_, fun h hf => ?_⟩
                · have h1 := i2 (by omega)
                  have h2 := (i1.1 (by omega)).2
                  rw [HS1.out, HS2.out]
                  omega
                · obtain ⟨f1, f2, f3⟩ := HS3.out hf
                  have h1 := i1.2 f1
                  have h2 := i2 h1
                  rw [HS1.out] at f2
                  omega
              clear i1 i2 hI hcall HS1 HS2 HS3
              go_wp2
              go_roundw
              case rel => exact ⟨k + 1, n + n', by omega, by go_num, by go_num, by omega, HI2, k1, B1⟩
              case measure => simp [intOf]; omega
            · have hfin : Hid ((n ≤ most ↔ FewOkQ most (d + 1) t) ∧ (n ≤ most → n = t.total)) := by
                have key : n ≤ most → n = t.total ∧ FewOkQ most (d + 1) t := fun h => by
                  have : k = na := by omega
                  subst this
                  obtain ⟨h1, h2, h3⟩ := HI.out.1 h
                  have e : ts.take k = ts := List.take_of_length_le (by rw [HNA.out]; exact Nat.le_refl _)
                  rw [e] at h1 h2
                  refine ⟨by rw [HT.out]; exact h1, by rw [HT.out]; omega, by rw [HD.out]; omega⟩
                refine ⟨⟨fun h => (key h).2, fun h => ?_⟩, fun h => (key h).1⟩
                rcases Nat.lt_or_ge most n with h1 | h1
                · exact absurd h (HI.out.2 h1)
                · exact h1
              clear HI
              by_cases hka : k < na
              · have z1 : decide ((k : Int) < (na : Int)) = true := by simp; omega
                have z2 : decide ((n : Int) ≤ (most : Int)) = false := by simp; omega
                have z3 : decide (n ≤ most) = false := by simp; omega
                go_wp2
                go_ret
                exact ⟨n, rfl, hfin.out.1, hfin.out.2, by omega, hbl⟩
              · have z1 : decide ((k : Int) < (na : Int)) = false := by simp; omega
                go_wp2
                go_ret
                exact ⟨n, rfl, hfin.out.1, hfin.out.2, by omega, hbl⟩

/-- Are there few terms and types? -/
def fewTB (most d : Nat) (t : Tm) : Bool := decide (t.total ≤ most ∧ t.deep ≤ d)

set_option maxRecDepth 100000 in
theorem FewT_calls (most : Nat) (hmost : most ≤ 1000) (d : Nat) (hd : d ≤ 70) (t : Tm) (ok : Nat → Prop) (sb sl : Value) (w : World) (hb : Holds w ok t.binds sb) (ha : HoldsT w ok t.args sl) :
    Calls Try.prog 58 #[tmv sb t.kind t.idx sl, .int .i64 (most : Int), .int .i64 (d : Int)] w fun e w' => e = .returned (.bool (fewTB most d t)) ∧ Below w.heap.size w w' := by
  obtain ⟨a, cap, rfl, _⟩ := hb.shape
  obtain ⟨a', cap', rfl, _⟩ := ha.shape
  obtain ⟨N, hN⟩ : ∃ N, w.heap.size = N := ⟨_, rfl⟩
  obtain ⟨W, hW⟩ : ∃ W, w.alloc (.cells #[.slice a t.binds.length cap, .int .i64 t.kind, .int .i64 t.idx, .slice a' t.args.length cap'] 71) = W := ⟨_, rfl⟩
  have b : Blk W N 71 #[.slice a t.binds.length cap, .int .i64 t.kind, .int .i64 t.idx, .slice a' t.args.length cap'] := by rw [← hW]; exact Blk.new' w N 71 _ hN
  have B0 : Below N w W := by rw [← hW]; exact (Below.refl N w).alloc (by omega) _
  have hcall := few06_calls most hmost d t d ok _ _ W rfl hd (by rw [← hW]; exact hb.alloc _) (by rw [← hW]; exact ha.alloc _)
  have c0 := b.cell 0
  have c1 := b.cell 1
  have c2 := b.cell 2
  have c3 := b.cell 3
  have lb := b.lt
  have HF : Hid (∀ n : Nat, (n ≤ most ↔ FewOkQ most d t) → decide (n ≤ most) = fewTB most d t) := fun n h => by unfold fewTB; rw [decide_eq_decide]; exact h
  generalize fewTB most d t = fb at *
  rw [hN]
  clear hb ha
  go_enter Try.func58, Try.ntmps58
  go_wp2_with fail
  refine hcall.mono ?_
  clear hW
  rintro e w1 ⟨n, rfl, i1, _, i3, hb1⟩
  have z1 : decide ((n : Int) ≤ (most : Int)) = fb := by rw [← HF.out n i1, decide_eq_decide]; omega
  have z2 : decide (n ≤ most) = fb := HF.out n i1
  clear i1
  have B1 : Below N w w1 := B0.trans (hb1.mono (by omega))
  go_wp2
  go_ret
  exact ⟨rfl, B1⟩

end Go.Proofs.Ytckagmagjogmnaa

namespace Go.Proofs.Ytckagmagjogmnaa
open Go Go.RowKit

def AllUpT (p : Tm → Bool) (ts : List Tm) (k : Nat) : Prop := ∀ i t, i < k → ts[i]? = some t → p t = true
theorem AllUpT.step {p : Tm → Bool} {ts : List Tm} {k : Nat} {u : Tm} (h : AllUpT p ts k) (hu : ts[k]? = some u) (hp : p u = true) : AllUpT p ts (k + 1) := by
  intro i t hi ht
  rcases Nat.lt_or_ge i k with hl | hl
  · exact h i t hl ht
  · obtain rfl : i = k := by omega
    rw [hu] at ht; cases ht; exact hp
theorem AllUpT.all {p : Tm → Bool} {ts : List Tm} (h : AllUpT p ts ts.length) : ts.all p = true := by
  rw [List.all_eq_true]
  intro t ht
  obtain ⟨i, hi⟩ := List.mem_iff_getElem?.1 ht
  exact h i t (List.getElem?_eq_some_iff.1 hi).1 hi

set_option maxRecDepth 100000 in
set_option maxHeartbeats 800000 in
theorem FewL_callsQ (ts : List Tm) (ok : Nat → Prop) (sl : Value) (w : World) (ha : HoldsT w ok ts sl) (hn : ts.length ≤ 1000) :
    Calls Try.prog 32 #[sl] w fun e w' => e = .returned (.bool (ts.all (fewTB 150 70))) ∧ Below w.heap.size w w' := by
  obtain ⟨a, cap, rfl, hcap, hat⟩ := ha.shape
  have HA : Hid _ := hat
  obtain ⟨r, hr⟩ : ∃ r, ts.all (fewTB 150 70) = r := ⟨_, rfl⟩
  have HR : Hid _ := hr
  rw [hr]
  obtain ⟨N, hN⟩ : ∃ N, w.heap.size = N := ⟨_, rfl⟩
  rw [hN]
  clear hat ha hr
  go_enter Try.func32, Try.ntmps32
  go_wp2
  go_loopw [3] (fun i wr => ∃ k : Nat, k ≤ ts.length ∧ i = .int .i64 k ∧ Hid (AllUpT (fewTB 150 70) ts k) ∧ Below N w wr) (fun i _ => ts.length - (intOf i).toNat)
  case atStart => exact ⟨0, Nat.zero_le _, rfl, fun _ _ h => by omega, Below.refl _ _⟩
  case round =>
    obtain ⟨k, hk, rfl, HF, hbl⟩ := hrel
    by_cases hlt : k < ts.length
    · obtain ⟨u, hu⟩ : ∃ u, ts[k]? = some u := ⟨_, List.getElem?_eq_getElem hlt⟩
      obtain ⟨g, o, s, r', rfl, _, hg, a0, a1, a2, a3, hs, hr'⟩ := HA.out k u hu
      rw [hN] at hg
      have q0 := (cat hbl hg).trans a0
      have q1 := (cat hbl hg).trans a1
      have q2 := (cat hbl hg).trans a2
      have q3 := (cat hbl hg).trans a3
      have y1 : (0 : Int) ≤ (k : Int) := by omega
      have y2 : (k : Int) < (ts.length : Int) := by omega
      have hcall := FewT_calls 150 (by omega) 70 (by omega) u ok s r' wr (hs.bel (by rw [hN]; exact hbl)) (hr'.bel (by rw [hN]; exact hbl))
      have HU : Hid (ts[k]? = some u) := hu
      obtain ⟨fb, hfb⟩ : ∃ fb, fewTB 150 70 u = fb := ⟨_, rfl⟩
      have HFB : Hid _ := hfb
      rw [hfb] at hcall
      clear a0 a1 a2 a3 hu hfb hs hr'
      go_wp2_with fail
      refine hcall.mono ?_
      rintro e w1 ⟨rfl, hb1⟩
      have B1 : Below N w w1 := hbl.trans (hb1.mono (by have := hbl.size; omega))
      cases fb with
      | false =>
        go_wp2
        go_ret
        refine ⟨ret_bool ?_, B1⟩
        rw [← HR.out]
        cases hb : ts.all (fewTB 150 70) with
        | false => rfl
        | true =>
          have := List.all_eq_true.1 hb u (List.mem_of_getElem? HU.out)
          rw [HFB.out] at this
          cases this
      | true =>
        go_wp2
        go_roundw
        case rel => exact ⟨k + 1, by omega, by go_num, HF.out.step HU.out HFB.out, B1⟩
        case measure => simp [intOf]; omega
    · obtain rfl : k = ts.length := by omega
      go_wp2
      go_ret
      exact ⟨ret_bool (by rw [← HR.out]; exact HF.out.all.symm), hbl⟩

end Go.Proofs.Ytckagmagjogmnaa

/-
  A built slice of one term, and how big a term of few is.
-/
namespace Go.Proofs.Ytckagmagjogmnaa
open Go Go.RowKit

theorem total_of_fewQ {t : Tm} (h : fewTB 150 70 t = true) : t.total ≤ 150 := by
  unfold fewTB at h
  exact (of_decide_eq_true h).1
/-- A built slice of one term. -/
theorem holdsT_one (w : World) (B : Nat) (hB : w.heap.size = B) (t : Tm) (e : TypeId) (x1 : Option Addr) (x2 x3 : Nat) (y1 : Option Addr) (y2 y3 : Nat) (hb : Holds w okT t.binds (.slice x1 x2 x3)) (hr : HoldsT w okT t.args (.slice y1 y2 y3)) :
    HoldsT (w.alloc (.cells #[.slice x1 x2 x3, .int .i64 t.kind, .int .i64 t.idx, .slice y1 y2 y3] e)) okT [t] (.slice (some ⟨B, 0, none⟩) 1 1) := by
  have hbk := Blk.new' w B e #[.slice x1 x2 x3, .int .i64 t.kind, .int .i64 t.idx, .slice y1 y2 y3] hB
  refine HoldsT.mk [t] (some ⟨B, 0, none⟩) 1 (fun _ => .slice x1 x2 x3) (fun _ => .slice y1 y2 y3) (Nat.le_refl _) (fun h => by cases h) ?_ ?_ ?_
  · intro i u hi
    obtain ⟨rfl, rfl⟩ : i = 0 ∧ t = u := by
      match i, hi with
      | 0, hi => exact ⟨rfl, by simpa using hi⟩
      | i + 1, hi => simp at hi
    exact ⟨B, 0, rfl, trivial, hbk.cell 0, hbk.cell 1, hbk.cell 2, hbk.cell 3⟩
  · intro i u hi
    obtain rfl : t = u := by
      match i, hi with
      | 0, hi => simpa using hi
      | i + 1, hi => simp at hi
    exact hb.alloc _
  · intro i u hi
    obtain rfl : t = u := by
      match i, hi with
      | 0, hi => simpa using hi
      | i + 1, hi => simp at hi
    exact hr.alloc _

end Go.Proofs.Ytckagmagjogmnaa

