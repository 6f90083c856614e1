/-
  The contracts of the document's few and Few of raw terms, and of the law's Few.
-/
import Derived.Test.YtckagmagjogmnaaHoldR
import Derived.Test.YtckagmagjogmnaaFew
import Derived.Deep.DeepCutAuto
namespace Go.Proofs.Ytckagmagjogmnaa
open Go Go.RowKit

/-- Few raw terms and types, and not deep. -/
def FewOk (most d : Nat) (t : Rw) : Prop := t.total ≤ most ∧ t.deep ≤ d

set_option maxRecDepth 100000 in
set_option maxHeartbeats 1600000 in
theorem Size_calls (t : Ty) : ∀ (ok : Nat → Prop) (sl : Value) (w : World), Holds w ok t.args sl → t.size ≤ 1000000 →
    Calls Try.prog 77 #[tv sl t.base] w fun e w' => e = .returned (.int .i64 (t.size : Int)) ∧ Below w.heap.size w w' := by
  induction t using Ty.ind with
  | h t ih =>
  intro ok sl w hh hsz
  obtain ⟨ts, hts⟩ : ∃ ts, t.args = ts := ⟨_, rfl⟩
  have hsz2 := t.size_eq
  rw [hts] at hh ih hsz2
  obtain ⟨a, cap, rfl, hcap, hat⟩ := hh.shape
  have HA : Hid _ := hat
  clear hat hh
  have hln := sizeL_length ts
  obtain ⟨B, hB⟩ : ∃ B, w.heap.size = B := ⟨_, rfl⟩
  go_enter Try.func77, Try.ntmps77
  go_wp2
  generalize hw0 : w.alloc (.cells #[.slice a ts.length cap, .int .i64 t.base] 24) = w0
  have b0 : Blk w0 B 24 #[.slice a ts.length cap, .int .i64 t.base] := by rw [← hw0]; exact Blk.new' w B 24 _ hB
  have bl0 : Below B w w0 := by rw [← hw0]; exact (Below.refl B w).alloc (by omega) _
  clear hw0
  go_loopw [3, 4] (fun n i wr => ∃ k : Nat, k ≤ ts.length ∧ i = .int .i64 k ∧ n = .int .i64 ((1 + sizeL (ts.take k) : Nat) : Int) ∧ Blk wr B 24 #[.slice a ts.length cap, .int .i64 t.base] ∧ Below B w wr)
    (fun _ i _ => ts.length - (intOf i).toNat)
  case atStart => exact ⟨0, Nat.zero_le _, rfl, by simp [sizeL], b0, bl0⟩
  case round =>
    clear b0 bl0
    obtain ⟨k, hk, rfl, rfl, hb, hbl⟩ := hrel
    have r0 := hb.cell 0
    have hle := sizeL_take_le ts k
    by_cases hlt : k < ts.length
    · obtain ⟨u, hu⟩ : ∃ u, ts[k]? = some u := ⟨_, List.getElem?_eq_getElem hlt⟩
      obtain ⟨g, o, s, rfl, _, hg, a0, a1, hs⟩ := HA.out k u hu
      have q0 := (cat hbl (by omega)).trans a0
      have q1 := (cat hbl (by omega)).trans a1
      have hm := List.mem_of_getElem? hu
      have hus := size_mem hm
      have hS : Hid (sizeL (ts.take (k + 1)) = sizeL (ts.take k) + u.size) := sizeL_take hu
      have y1 : (0 : Int) ≤ (k : Int) := by omega
      have y2 : (k : Int) < (ts.length : Int) := by omega
      have hs2 := hs.bel (hB ▸ hbl)
      clear a0 a1 hu
      go_wp2_with (go_at_call 77; refine (ih u hm ok s _ hs2 (by omega)).mono ?_; rintro e w1 ⟨rfl, hb1⟩)
      go_roundw
      case rel => exact ⟨k + 1, by omega, by go_num, by rw [hS.out]; go_num, hb.below hb1 hb.lt, hbl.trans (hb1.mono (by have := hbl.size; omega))⟩
      case measure => simp [intOf]; omega
    · obtain rfl : k = ts.length := by omega
      go_wp2
      go_ret
      exact ⟨ret_int (by rw [List.take_length, hsz2]), hB ▸ hbl⟩

theorem few_bad_ty {most d : Nat} {t : Rw} (h : fewB most d t.ty = false) : ¬ FewOk most d t := fun ⟨h1, h2⟩ => by
  rw [t.total_eq] at h1
  rw [t.deep_eq] at h2
  unfold fewB at h
  simp at h
  have := h (by omega)
  omega

set_option maxRecDepth 100000 in
set_option maxHeartbeats 1600000 in
theorem few07_calls (most : Nat) (hmost : most ≤ 1000) (d : Nat) : ∀ (t : Rw) (m : Int) (ok : Nat → Prop) (sb sl : Value) (w : World), m = d → d ≤ 70 → Holds w ok t.ty.args sb → HoldsR w ok t.kids sl →
    Calls Try.prog 66 #[rwv t.kind sb t.ty.base t.idx sl, .int .i64 (most : Int), .int .i64 m] w fun e w' => ∃ n : Nat, e = .returned (.int .i64 (n : Int)) ∧ (n ≤ most ↔ FewOk most d t) ∧ (n ≤ most → n = t.total) ∧ n ≤ 2000 * (d + 2) ∧ Below w.heap.size w w' := by
  induction d with
  | zero =>
    intro t m ok sb sl w hm hd hb ha
    obtain rfl : m = 0 := by omega
    clear hm
    obtain ⟨a, cap, rfl, _⟩ := hb.shape
    obtain ⟨a', cap', rfl, _⟩ := ha.shape
    have hpos := t.deep_pos
    have hN : Hid (¬ FewOk most 0 t) := fun h => by have := h.2; omega
    obtain ⟨N, hN2⟩ : ∃ N, w.heap.size = N := ⟨_, rfl⟩
    rw [hN2]
    generalize t.ty.args.length = bn
    generalize t.kids.length = an
    have hB : Below N w (w.alloc (.cells #[.int .i64 t.kind, .slice a bn cap, .int .i64 t.ty.base, .int .i64 t.idx, .slice a' an cap'] 27)) := (Below.refl N w).alloc (by omega) _
    go_enter Try.func66, Try.ntmps66
    go_wp2
    go_ret
    exact ⟨most + 1, by go_num, ⟨fun h => by omega, fun h => absurd h hN.out⟩, fun h => by omega, by omega, hB⟩
  | succ d ih =>
    intro t m ok sb sl w hm hd hb ha
    have HM : Hid (m = ((d + 1 : Nat) : Int)) := hm
    have hm1 : 1 ≤ m := by omega
    have hm2 : m ≤ 70 := by omega
    clear hm
    obtain ⟨ts, hts⟩ : ∃ ts, t.kids = ts := ⟨_, rfl⟩
    have htot := t.total_eq
    have hdep := t.deep_eq
    have HBad : Hid (fewB most (d + 1) t.ty = false → ¬ FewOk most (d + 1) t) := fun h => few_bad_ty h
    have HFB : Hid (fewB most (d + 1) t.ty = true → t.ty.size ≤ most ∧ t.ty.depth ≤ d + 1) := fun h => by unfold fewB at h; simpa using h
    rw [hts] at ha htot hdep
    have HT : Hid _ := htot
    have HD : Hid _ := hdep
    have hh := hb
    obtain ⟨a, cap, rfl, _⟩ := hb.shape
    obtain ⟨a', cap', rfl, hcap', hat'⟩ := ha.shape
    have HA' : Hid _ := hat'
    obtain ⟨nb, hnb⟩ : ∃ nb, t.ty.args.length = nb := ⟨_, rfl⟩
    obtain ⟨na, hna⟩ : ∃ na, ts.length = na := ⟨_, rfl⟩
    have HNA : Hid (ts.length = na) := hna
    rw [hnb] at hh ⊢
    rw [hna] at hcap' ⊢
    obtain ⟨N, hN⟩ : ∃ N, w.heap.size = N := ⟨_, rfl⟩
    have HN : Hid (w.heap.size = N) := hN
    have z0 : decide (m ≤ 0) = false := by rw [decide_eq_false_iff_not]; omega
    rw [hN]
    obtain ⟨w0, hw0⟩ : ∃ w0, w.alloc (.cells #[.int .i64 t.kind, .slice a nb cap, .int .i64 t.ty.base, .int .i64 t.idx, .slice a' na cap'] 27) = w0 := ⟨_, rfl⟩
    have b0 : Blk w0 N 27 #[.int .i64 t.kind, .slice a nb cap, .int .i64 t.ty.base, .int .i64 t.idx, .slice a' na cap'] := by rw [← hw0]; exact Blk.new' w N 27 _ hN
    have bl0 : Below N w w0 := by rw [← hw0]; exact (Below.refl N w).alloc (by omega) _
    have hh0 : Holds w0 ok t.ty.args (.slice a nb cap) := by rw [← hw0]; exact hh.alloc _
    have hFw : Calls Try.prog 49 #[tv (.slice a nb cap) t.ty.base, .int .i64 (most : Int), .int .i64 m] w0 fun e w' => e = .returned (.bool (fewB most (d + 1) t.ty)) ∧ Below w0.heap.size w0 w' := by rw [HM.out]; exact Few_calls most hmost (d + 1) hd t.ty ok _ w0 hh0
    have c1 := b0.cell 1
    have c2 := b0.cell 2
    have lN0 := b0.lt
    have HW : Hid _ := hw0
    generalize fewB most (d + 1) t.ty = fb at *
    clear hat' hb ha hh htot hdep hnb hna hw0
    go_enter Try.func66, Try.ntmps66
    go_upto_region 1 with fail
    rw [HW.out]
    clear HW hN
    go_wp2_with fail
    refine hFw.mono ?_
    rintro e w1 ⟨rfl, hb1⟩
    have k1 := b0.below hb1 b0.lt
    have B1 : Below N w w1 := bl0.trans (hb1.mono (by omega))
    cases fb with
    | false =>
      go_wp2
      go_ret
      exact ⟨most + 1, by go_num, ⟨fun h => by omega, fun h => absurd h (HBad.out (by first | rfl | trivial))⟩, fun h => by omega, by omega, B1⟩
    | true =>
    have hf := HFB.out rfl
    have r1 := k1.cell 1
    have r2 := k1.cell 2
    have hSz := Size_calls t.ty ok _ w1 (hh0.bel hb1) (by omega)
    have l1 := k1.lt
    clear hFw hb1 c1 c2 b0 bl0 hh0 HBad HFB
    go_wp2_with fail
    refine hSz.mono ?_
    rintro e w2 ⟨rfl, hb2⟩
    have k2 := k1.below hb2 k1.lt
    have B2 : Below N w w2 := B1.trans (hb2.mono (by omega))
    obtain ⟨x0, hx0⟩ : ∃ x, t.ty.size = x := ⟨_, rfl⟩
    obtain ⟨y0, hy0⟩ : ∃ y, t.ty.depth = y := ⟨_, rfl⟩
    rw [hx0] at hf HT ⊢
    rw [hy0] at hf HD
    obtain ⟨hf1, hf2⟩ := hf
    clear hSz hb2 k1 B1 r1 r2 l1 hx0 hy0
    go_wp2_with fail
    go_loopw [7, 8] (fun y i wr => ∃ (k n : Nat), k ≤ na ∧ i = .int .i64 k ∧ y = .int .i64 (n : Int) ∧ n ≤ 2000 * (d + 3) ∧ Hid ((n ≤ most → n = 1 + x0 + totalR (ts.take k) ∧ deepR (ts.take k) ≤ d) ∧ (most < n → ¬ FewOk most (d + 1) t)) ∧ Blk wr N 27 #[.int .i64 t.kind, .slice a nb cap, .int .i64 t.ty.base, .int .i64 t.idx, .slice a' na cap'] ∧ Below N w wr) (fun _ i _ => na - (intOf i).toNat)
    case atStart =>
      exact ⟨0, 1 + x0, Nat.zero_le _, rfl, by go_num, by omega, ⟨fun h => by simp [totalR, deepR], fun h hf => by have h1 := hf.1; rw [HT.out] at h1; omega⟩, k2, B2⟩
    case round =>
      clear k2 B2
      obtain ⟨k, n, hk, rfl, rfl, hn, HI, hb, hbl⟩ := hrel
      have r3 := hb.cell 4
      have lN := hb.lt
      have hts' := totalR_take_le ts k
      by_cases hlt : k < na ∧ n ≤ most
      · obtain ⟨hlt, hnm⟩ := hlt
        obtain ⟨u, hu⟩ : ∃ u, ts[k]? = some u := ⟨_, List.getElem?_eq_getElem (by rw [HNA.out]; exact hlt)⟩
        obtain ⟨g', o', s', r', rfl, _, hg', a0, a1, a2, a3, a4, hs', hr'⟩ := HA'.out k u hu
        rw [HN.out] at hg'
        have q0 := (cat hbl hg').trans a0
        have q1 := (cat hbl hg').trans a1
        have q2 := (cat hbl hg').trans a2
        have q3 := (cat hbl hg').trans a3
        have q4 := (cat hbl hg').trans a4
        have hmem := List.mem_of_getElem? hu
        have y1 : (0 : Int) ≤ (k : Int) := by omega
        have y2 : (k : Int) < (na : Int) := by omega
        have z1 : decide ((k : Int) < (na : Int)) = true := by simp; omega
        have z2 : decide ((n : Int) ≤ (most : Int)) = true := by simp; omega
        have z3 : decide (n ≤ most) = true := by simp; omega
        have hI := HI.out.1 hnm
        have hkm : k ≤ 1000 := by
          have h1 := totalR_length (ts.take k)
          rw [List.length_take, HNA.out] at h1
          omega
        have hw1 : IntKind.i64.wrap (m - 1) = m - 1 := by rw [IntKind.wrap_i64]; omega
        have hcall := ih u (m - 1) ok s' r' wr (by have := HM.out; omega) (by omega) (hs'.bel (by rw [HN.out]; exact hbl)) (hr'.bel (by rw [HN.out]; exact hbl))
        have HS1 : Hid (totalR (ts.take (k + 1)) = totalR (ts.take k) + u.total) := totalR_take hu
        have HS2 : Hid (deepR (ts.take (k + 1)) = max (deepR (ts.take k)) u.deep) := deepR_take hu
        have HS3 : Hid (FewOk most (d + 1) t → FewOk most d u ∧ totalR (ts.take (k + 1)) ≤ totalR ts ∧ 1 + x0 + totalR ts ≤ most) := fun hf => by
          obtain ⟨f1, f2⟩ := hf
          rw [HT.out] at f1
          rw [HD.out] at f2
          have g1 := rtotal_mem hmem
          have g2 := rdeep_mem hmem
          exact ⟨⟨by omega, by omega⟩, totalR_take_le ts (k + 1), f1⟩
        have hup := u.total_pos
        obtain ⟨t1, t2, rfl, _⟩ := hs'.shape
        obtain ⟨t3, t4, rfl, _⟩ := hr'.shape
        clear a0 a1 a2 a3 a4 hu hs' hr' HI
        go_wp2_with fail
        refine hcall.mono ?_
        rintro e w3 ⟨n', rfl, i1, i2, i3, hb3⟩
        have k3 := hb.below hb3 hb.lt
        have B3 : Below N w w3 := hbl.trans (hb3.mono (by omega))
        have HI2 : Hid ((n + n' ≤ most → n + n' = 1 + x0 + totalR (ts.take (k + 1)) ∧ deepR (ts.take (k + 1)) ≤ d) ∧ (most < n + n' → ¬ FewOk most (d + 1) t)) := by
          refine ⟨fun h => ?_, fun h hf => ?_⟩
          · have h1 := i2 (by omega)
            have h2 := (i1.1 (by omega)).2
            rw [HS1.out, HS2.out]
            omega
          · obtain ⟨f1, f2, f3⟩ := HS3.out hf
            have h1 := i1.2 f1
            have h2 := i2 h1
            rw [HS1.out] at f2
            omega
        clear i1 i2 hI hcall HS1 HS2 HS3
        go_wp2
        go_roundw
        case rel => exact ⟨k + 1, n + n', by omega, by go_num, by go_num, by omega, HI2, k3, B3⟩
        case measure => simp [intOf]; omega
      · have hfin : Hid ((n ≤ most ↔ FewOk most (d + 1) t) ∧ (n ≤ most → n = t.total)) := by
          have key : n ≤ most → n = t.total ∧ FewOk most (d + 1) t := fun h => by
            have : k = na := by omega
            subst this
            obtain ⟨h1, h2⟩ := HI.out.1 h
            have e : ts.take k = ts := List.take_of_length_le (by rw [HNA.out]; exact Nat.le_refl _)
            rw [e] at h1 h2
            refine ⟨by rw [HT.out]; exact h1, by rw [HT.out]; omega, by rw [HD.out]; omega⟩
          refine ⟨⟨fun h => (key h).2, fun h => ?_⟩, fun h => (key h).1⟩
          rcases Nat.lt_or_ge most n with h1 | h1
          · exact absurd h (HI.out.2 h1)
          · exact h1
        clear HI
        by_cases hka : k < na
        · have z1 : decide ((k : Int) < (na : Int)) = true := by simp; omega
          have z2 : decide ((n : Int) ≤ (most : Int)) = false := by simp; omega
          have z3 : decide (n ≤ most) = false := by simp; omega
          go_wp2
          go_ret
          exact ⟨n, rfl, hfin.out.1, hfin.out.2, by omega, hbl⟩
        · have z1 : decide ((k : Int) < (na : Int)) = false := by simp; omega
          go_wp2
          go_ret
          exact ⟨n, rfl, hfin.out.1, hfin.out.2, by omega, hbl⟩

/-- Are there few raw terms and types? -/
def fewRB (most d : Nat) (t : Rw) : Bool := decide (t.total ≤ most ∧ t.deep ≤ d)

set_option maxRecDepth 100000 in
theorem FewR_calls (most : Nat) (hmost : most ≤ 1000) (d : Nat) (hd : d ≤ 70) (t : Rw) (ok : Nat → Prop) (sb sl : Value) (w : World) (hb : Holds w ok t.ty.args sb) (ha : HoldsR w ok t.kids sl) :
    Calls Try.prog 39 #[rwv t.kind sb t.ty.base t.idx sl, .int .i64 (most : Int), .int .i64 (d : Int)] w fun e w' => e = .returned (.bool (fewRB most d t)) ∧ Below w.heap.size w w' := by
  obtain ⟨a, cap, rfl, _⟩ := hb.shape
  obtain ⟨a', cap', rfl, _⟩ := ha.shape
  obtain ⟨N, hN⟩ : ∃ N, w.heap.size = N := ⟨_, rfl⟩
  obtain ⟨W, hW⟩ : ∃ W, w.alloc (.cells #[.int .i64 t.kind, .slice a t.ty.args.length cap, .int .i64 t.ty.base, .int .i64 t.idx, .slice a' t.kids.length cap'] 27) = W := ⟨_, rfl⟩
  have b : Blk W N 27 #[.int .i64 t.kind, .slice a t.ty.args.length cap, .int .i64 t.ty.base, .int .i64 t.idx, .slice a' t.kids.length cap'] := by rw [← hW]; exact Blk.new' w N 27 _ hN
  have B0 : Below N w W := by rw [← hW]; exact (Below.refl N w).alloc (by omega) _
  have hcall := few07_calls most hmost d t d ok _ _ W rfl hd (by rw [← hW]; exact hb.alloc _) (by rw [← hW]; exact ha.alloc _)
  have c0 := b.cell 0
  have c1 := b.cell 1
  have c2 := b.cell 2
  have c3 := b.cell 3
  have c4 := b.cell 4
  have lb := b.lt
  have HF : Hid (∀ n : Nat, (n ≤ most ↔ FewOk most d t) → decide (n ≤ most) = fewRB most d t) := fun n h => by unfold fewRB; rw [decide_eq_decide]; exact h
  generalize fewRB most d t = fb at *
  rw [hN]
  clear hb ha
  go_enter Try.func39, Try.ntmps39
  go_wp2_with fail
  refine hcall.mono ?_
  clear hW
  rintro e w1 ⟨n, rfl, i1, _, i3, hb1⟩
  have z1 : decide ((n : Int) ≤ (most : Int)) = fb := by rw [← HF.out n i1, decide_eq_decide]; omega
  have z2 : decide (n ≤ most) = fb := HF.out n i1
  clear i1
  have B1 : Below N w w1 := B0.trans (hb1.mono (by omega))
  go_wp2
  go_ret
  exact ⟨rfl, B1⟩

def AllUpR (p : Rw → Bool) (ts : List Rw) (k : Nat) : Prop := ∀ i t, i < k → ts[i]? = some t → p t = true
theorem AllUpR.step {p : Rw → Bool} {ts : List Rw} {k : Nat} {u : Rw} (h : AllUpR p ts k) (hu : ts[k]? = some u) (hp : p u = true) : AllUpR p ts (k + 1) := by
  intro i t hi ht
  rcases Nat.lt_or_ge i k with hl | hl
  · exact h i t hl ht
  · obtain rfl : i = k := by omega
    rw [hu] at ht; cases ht; exact hp
theorem AllUpR.all {p : Rw → Bool} {ts : List Rw} (h : AllUpR p ts ts.length) : ts.all p = true := by
  rw [List.all_eq_true]
  intro t ht
  obtain ⟨i, hi⟩ := List.mem_iff_getElem?.1 ht
  exact h i t (List.getElem?_eq_some_iff.1 hi).1 hi

set_option maxRecDepth 100000 in
set_option maxHeartbeats 800000 in
theorem FewL_calls (ts : List Rw) (ok : Nat → Prop) (sl : Value) (w : World) (ha : HoldsR w ok ts sl) (hn : ts.length ≤ 1000) :
    Calls Try.prog 8 #[sl] w fun e w' => e = .returned (.bool (ts.all (fewRB 300 70))) ∧ Below w.heap.size w w' := by
  obtain ⟨a, cap, rfl, hcap, hat⟩ := ha.shape
  have HA : Hid _ := hat
  obtain ⟨r, hr⟩ : ∃ r, ts.all (fewRB 300 70) = r := ⟨_, rfl⟩
  have HR : Hid _ := hr
  rw [hr]
  obtain ⟨N, hN⟩ : ∃ N, w.heap.size = N := ⟨_, rfl⟩
  rw [hN]
  clear hat ha hr
  go_enter Try.func8, Try.ntmps8
  go_wp2
  go_loopw [3] (fun i wr => ∃ k : Nat, k ≤ ts.length ∧ i = .int .i64 k ∧ Hid (AllUpR (fewRB 300 70) ts k) ∧ Below N w wr) (fun i _ => ts.length - (intOf i).toNat)
  case atStart => exact ⟨0, Nat.zero_le _, rfl, fun _ _ h => by omega, Below.refl _ _⟩
  case round =>
    obtain ⟨k, hk, rfl, HF, hbl⟩ := hrel
    by_cases hlt : k < ts.length
    · obtain ⟨u, hu⟩ : ∃ u, ts[k]? = some u := ⟨_, List.getElem?_eq_getElem hlt⟩
      obtain ⟨g, o, s, r', rfl, _, hg, a0, a1, a2, a3, a4, hs, hr'⟩ := HA.out k u hu
      rw [hN] at hg
      have q0 := (cat hbl hg).trans a0
      have q1 := (cat hbl hg).trans a1
      have q2 := (cat hbl hg).trans a2
      have q3 := (cat hbl hg).trans a3
      have q4 := (cat hbl hg).trans a4
      have y1 : (0 : Int) ≤ (k : Int) := by omega
      have y2 : (k : Int) < (ts.length : Int) := by omega
      have hcall := FewR_calls 300 (by omega) 70 (by omega) u ok s r' wr (hs.bel (by rw [hN]; exact hbl)) (hr'.bel (by rw [hN]; exact hbl))
      have HU : Hid (ts[k]? = some u) := hu
      obtain ⟨fb, hfb⟩ : ∃ fb, fewRB 300 70 u = fb := ⟨_, rfl⟩
      have HFB : Hid _ := hfb
      rw [hfb] at hcall
      clear a0 a1 a2 a3 a4 hu hfb hs hr'
      go_wp2_with fail
      refine hcall.mono ?_
      rintro e w1 ⟨rfl, hb1⟩
      have B1 : Below N w w1 := hbl.trans (hb1.mono (by have := hbl.size; omega))
      cases fb with
      | false =>
        go_wp2
        go_ret
        refine ⟨ret_bool ?_, B1⟩
        rw [← HR.out]
        cases hb : ts.all (fewRB 300 70) with
        | false => rfl
        | true =>
          have := List.all_eq_true.1 hb u (List.mem_of_getElem? HU.out)
          rw [HFB.out] at this
          cases this
      | true =>
        go_wp2
        go_roundw
        case rel => exact ⟨k + 1, by omega, by go_num, HF.out.step HU.out HFB.out, B1⟩
        case measure => simp [intOf]; omega
    · obtain rfl : k = ts.length := by omega
      go_wp2
      go_ret
      exact ⟨ret_bool (by rw [← HR.out]; exact HF.out.all.symm), hbl⟩

theorem total_of_few {t : Rw} (h : fewRB 300 70 t = true) : t.total ≤ 300 := by
  unfold fewRB at h
  exact (of_decide_eq_true h).1
theorem deep_of_few {t : Rw} (h : fewRB 300 70 t = true) : t.deep ≤ 70 := by
  unfold fewRB at h
  exact (of_decide_eq_true h).2

end Go.Proofs.Ytckagmagjogmnaa
