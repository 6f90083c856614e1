/-
  The contracts of the document's own few, Few, low, Right, and of the law's few.
-/
import Derived.Test.YtckagmagjogmnaaSize
namespace Go.Proofs.Ytckagmagjogmnaa
open Go Go.RowKit

theorem fewL_drop (f : Ty → Nat) (most : Nat) {ts : List Ty} {k : Nat} {u : Ty} (n : Nat) (h : ts[k]? = some u) (hn : n ≤ most) : fewL f most (ts.drop k) n = fewL f most (ts.drop (k + 1)) (n + f u) := by
  obtain ⟨hl, he⟩ := List.getElem?_eq_some_iff.1 h
  rw [List.drop_eq_getElem_cons hl, he]
  simp [fewL, hn]
theorem fewL_pos (f : Ty → Nat) (most : Nat) (l : List Ty) (n : Nat) (h : 1 ≤ n) : 1 ≤ fewL f most l n := by
  induction l generalizing n with
  | nil => exact h
  | cons t r ih =>
    unfold fewL
    split
    · exact ih _ (by omega)
    · exact h
theorem few_pos (most d : Nat) (t : Ty) : 1 ≤ few most d t := by
  cases d with
  | zero => unfold few; omega
  | succ d => unfold few; exact fewL_pos _ _ _ _ (Nat.le_refl _)
theorem fewL_stop (f : Ty → Nat) (most : Nat) (l : List Ty) (n : Nat) (hn : ¬ n ≤ most) : fewL f most l n = n := by
  cases l <;> simp [fewL, hn]

set_option maxRecDepth 100000 in
set_option maxHeartbeats 1000000 in
theorem few_calls (most : Nat) (hmost : most ≤ 1000) (d : Nat) : ∀ (t : Ty) (m : Int) (ok : Nat → Prop) (sl : Value) (w : World), m = d → d ≤ 70 → Holds w ok t.args sl →
    Calls Try.prog 70 #[tv sl t.base, .int .i64 (most : Int), .int .i64 m] w fun e w' => e = .returned (.int .i64 (few most d t : Int)) ∧ Below w.heap.size w w' := by
  induction d with
  | zero =>
    intro t m ok sl w hm _ hh
    obtain rfl : m = 0 := by simpa using hm
    clear hm
    obtain ⟨a, cap, rfl, hcap, hat⟩ := hh.shape
    go_enter Try.func70, Try.ntmps70
    go_wp2
    go_ret
    exact ⟨ret_int (by simp [few]), (Below.refl _ _).alloc (Nat.le_refl _) _⟩
  | succ d ih =>
  intro t m ok sl w hm hd hh
  obtain ⟨ts, hts⟩ : ∃ ts, t.args = ts := ⟨_, rfl⟩
  have hR : Hid (few most (d + 1) t = fewL (few most d) most ts 1) := by show _ = _; unfold few; rw [hts]
  rw [hts] at hh
  obtain ⟨a, cap, rfl, hcap, hat⟩ := hh.shape
  have HA : Hid _ := hat
  clear hat hh
  have hmd : most * (d + 1) ≤ 1000 * 70 := Nat.mul_le_mul hmost (by omega)
  have HM : Hid (m = ((d + 1 : Nat) : Int)) := hm
  have hm1 : 1 ≤ m := by omega
  have hm2 : m ≤ 70 := by omega
  have hmB : decide (m ≤ 0) = false := by simp; omega
  clear hm
  obtain ⟨B, hB⟩ : ∃ B, w.heap.size = B := ⟨_, rfl⟩
  go_enter Try.func70, Try.ntmps70
  go_wp2
  generalize hw0 : w.alloc (.cells #[.slice a ts.length cap, .int .i64 t.base] 24) = w0
  have b0 : Blk w0 B 24 #[.slice a ts.length cap, .int .i64 t.base] := by rw [← hw0]; exact Blk.new' w B 24 _ hB
  have bl0 : Below B w w0 := by rw [← hw0]; exact (Below.refl B w).alloc (by omega) _
  clear hw0
  go_loopw [7, 8] (fun n i wr => ∃ k c : Nat, k ≤ ts.length ∧ i = .int .i64 k ∧ n = .int .i64 (c : Int) ∧ c ≤ 200000 ∧ k < c ∧ Hid (fewL (few most d) most (ts.drop k) c = fewL (few most d) most ts 1) ∧ Blk wr B 24 #[.slice a ts.length cap, .int .i64 t.base] ∧ Below B w wr)
    (fun _ i _ => ts.length - (intOf i).toNat)
  case atStart => exact ⟨0, 1, Nat.zero_le _, rfl, rfl, by omega, by omega, by show _ = _; simp, b0, bl0⟩
  case round =>
    clear b0 bl0
    obtain ⟨k, c, hk, rfl, rfl, hc, hkc, HF, hb, hbl⟩ := hrel
    have r0 := hb.cell 0
    by_cases hlt : k < ts.length
    · by_cases hcm : c ≤ most
      · obtain ⟨u, hu⟩ : ∃ u, ts[k]? = some u := ⟨_, List.getElem?_eq_getElem hlt⟩
        obtain ⟨g, o, s, rfl, _, hg, a0, a1, hs⟩ := HA.out k u hu
        have q0 := (cat hbl (by omega)).trans a0
        have q1 := (cat hbl (by omega)).trans a1
        have hS : Hid (fewL (few most d) most (ts.drop (k + 1)) (c + few most d u) = fewL (few most d) most ts 1) := by
          show _ = _
          rw [← fewL_drop _ _ _ hu hcm]; exact HF.out
        have hfu := few_le most d u
        have hfp := few_pos most d u
        have y1 : (0 : Int) ≤ (k : Int) := by omega
        have y2 : (k : Int) < (ts.length : Int) := by omega
        have y3 : decide ((c : Int) ≤ (most : Int)) = true := by simp; omega
        have hs2 : Holds wr ok u.args s := hs.bel (hB ▸ hbl)
        clear a0 a1 hu
        go_wp2_with (go_at_call 70; refine (ih u _ ok s _ (by have := HM.out; omega) (by omega) hs2).mono ?_; rintro e w1 ⟨rfl, hb1⟩)
        go_roundw
        case rel => exact ⟨k + 1, c + few most d u, by omega, by go_num, by go_num, by omega, by omega, hS, hb.below hb1 hb.lt, hbl.trans (hb1.mono (by have := hbl.size; omega))⟩
        case measure => simp [intOf]; omega
      · have y3 : decide ((c : Int) ≤ (most : Int)) = false := by simp; omega
        have hret : Hid (c = few most (d + 1) t) := by show _ = _; rw [hR.out, ← HF.out, fewL_stop _ _ _ _ hcm]
        go_wp2
        go_ret
        exact ⟨ret_int (by rw [← hret.out]), hB ▸ hbl⟩
    · obtain rfl : k = ts.length := by omega
      have hret : Hid (c = few most (d + 1) t) := by show _ = _; rw [hR.out, ← HF.out]; simp [fewL]
      go_wp2
      go_ret
      exact ⟨ret_int (by rw [← hret.out]), hB ▸ hbl⟩

/-- Few, of so many types, so deep. -/
def fewB (most d : Nat) (t : Ty) : Bool := decide (t.size ≤ most ∧ t.depth ≤ d)
theorem fewB_eq (most d : Nat) (t : Ty) : decide ((few most d t : Int) ≤ (most : Int)) = fewB most d t := by
  unfold fewB
  rw [decide_eq_decide]
  have := few_iff most d t
  omega

set_option maxRecDepth 100000 in
set_option maxHeartbeats 1000000 in
theorem Few_calls (most : Nat) (hmost : most ≤ 1000) (d : Nat) (hd : d ≤ 70) (t : Ty) (ok : Nat → Prop) (sl : Value) (w : World) (hh : Holds w ok t.args sl) :
    Calls Try.prog 49 #[tv sl t.base, .int .i64 (most : Int), .int .i64 (d : Int)] w fun e w' => e = .returned (.bool (fewB most d t)) ∧ Below w.heap.size w w' := by
  obtain ⟨a, cap, rfl, _⟩ := hh.shape
  have HF : Hid (decide (few most d t ≤ most) = fewB most d t) := by
    show _ = _
    rw [← fewB_eq]
    simp
  go_enter Try.func49, Try.ntmps49
  go_wp2_with (go_at_call 70; refine (few_calls most hmost d t _ ok _ _ rfl hd (hh.alloc _)).mono ?_; rintro e w1 ⟨rfl, hb1⟩)
  go_ret
  exact ⟨ret_bool HF.out, ((Below.refl _ _).alloc (Nat.le_refl _) _).trans (hb1.mono (by simp))⟩


-- LOW
theorem all_take {ts : List Ty} {p : Ty → Bool} {k : Nat} {u : Ty} (h : ts[k]? = some u) (hp : p u = false) : ts.all p = false := by
  rw [List.all_eq_false]
  exact ⟨u, List.mem_of_getElem? h, by simp [hp]⟩
def AllUp (p : Ty → Bool) (ts : List Ty) (k : Nat) : Prop := ∀ i t, i < k → ts[i]? = some t → p t = true
theorem AllUp.zero (p : Ty → Bool) (ts : List Ty) : AllUp p ts 0 := fun _ _ h => by omega
theorem AllUp.step {p : Ty → Bool} {ts : List Ty} {k : Nat} {u : Ty} (h : AllUp p ts k) (hu : ts[k]? = some u) (hp : p u = true) : AllUp p ts (k + 1) := by
  intro i t hi ht
  rcases Nat.lt_or_ge i k with hl | hl
  · exact h i t hl ht
  · obtain rfl : i = k := by omega
    rw [hu] at ht; cases ht; exact hp
theorem AllUp.all {p : Ty → Bool} {ts : List Ty} (h : AllUp p ts ts.length) : ts.all p = true := by
  rw [List.all_eq_true]
  intro t ht
  obtain ⟨i, hi⟩ := List.getElem?_of_mem ht
  exact h i t (List.getElem?_eq_some_iff.1 hi).1 hi

theorem lowL_all (n : Int) (ts : List Ty) : lowL n ts = ts.all (Ty.low n) := by
  induction ts with
  | nil => rfl
  | cons t r ih => simp [lowL, ih]

set_option maxRecDepth 100000 in
set_option maxHeartbeats 1000000 in
theorem low_calls (n : Int) (t : Ty) : ∀ (ok : Nat → Prop) (sl : Value) (w : World), Holds w ok t.args sl → t.size ≤ 1000000 →
    Calls Try.prog 95 #[tv sl t.base, .int .i64 n] w fun e w' => e = .returned (.bool (t.low n)) ∧ Below w.heap.size w w' := by
  induction t using Ty.ind with
  | h t ih =>
  intro ok sl w hh hsz
  obtain ⟨ts, hts⟩ : ∃ ts, t.args = ts := ⟨_, rfl⟩
  have hsz2 := t.size_eq
  have hlo := t.low_eq n
  rw [hts] at hh ih hsz2 hlo
  rw [lowL_all] at hlo
  have HL : Hid _ := hlo
  clear hlo
  obtain ⟨a, cap, rfl, hcap, hat⟩ := hh.shape
  have HA : Hid _ := hat
  clear hat hh
  have hln := sizeL_length ts
  obtain ⟨B, hB⟩ : ∃ B, w.heap.size = B := ⟨_, rfl⟩
  by_cases hok : 0 ≤ t.base ∧ t.base < n
  · have z1 : decide (t.base < 0) = false := by simp; omega
    have z2 : decide (n ≤ t.base) = false := by simp; omega
    have z3 : Hid (t.low n = ts.all (Ty.low n)) := by show _ = _; rw [HL.out]; simp [hok.1, hok.2]
    clear HL
    go_enter Try.func95, Try.ntmps95
    go_wp2
    generalize hw0 : w.alloc (.cells #[.slice a ts.length cap, .int .i64 t.base] 24) = w0
    have b0 : Blk w0 B 24 #[.slice a ts.length cap, .int .i64 t.base] := by rw [← hw0]; exact Blk.new' w B 24 _ hB
    have bl0 : Below B w w0 := by rw [← hw0]; exact (Below.refl B w).alloc (by omega) _
    clear hw0
    go_loopw [5] (fun i wr => ∃ k : Nat, k ≤ ts.length ∧ i = .int .i64 k ∧ Hid (AllUp (Ty.low n) ts k) ∧ Blk wr B 24 #[.slice a ts.length cap, .int .i64 t.base] ∧ Below B w wr)
      (fun i _ => ts.length - (intOf i).toNat)
    case atStart => exact ⟨0, Nat.zero_le _, rfl, AllUp.zero _ _, b0, bl0⟩
    case round =>
      clear b0 bl0
      obtain ⟨k, hk, rfl, HF, hb, hbl⟩ := hrel
      have r0 := hb.cell 0
      by_cases hlt : k < ts.length
      · obtain ⟨u, hu⟩ : ∃ u, ts[k]? = some u := ⟨_, List.getElem?_eq_getElem hlt⟩
        obtain ⟨g, o, s, rfl, _, hg, a0, a1, hs⟩ := HA.out k u hu
        have q0 := (cat hbl (by omega)).trans a0
        have q1 := (cat hbl (by omega)).trans a1
        have hm := List.mem_of_getElem? hu
        have hus := size_mem hm
        have y1 : (0 : Int) ≤ (k : Int) := by omega
        have y2 : (k : Int) < (ts.length : Int) := by omega
        have hs2 : Holds wr ok u.args s := hs.bel (hB ▸ hbl)
        have HU : Hid (ts[k]? = some u) := hu
        clear a0 a1 hu
        obtain ⟨r, hr⟩ : ∃ r, u.low n = r := ⟨_, rfl⟩
        have HR : Hid (u.low n = r) := hr
        have hcall := fun W (hW : Holds W ok u.args s) => ih u hm ok s W hW (by omega)
        rw [hr] at hcall
        clear hr
        cases r
        · go_wp2_with (go_at_call 95; refine (hcall _ hs2).mono ?_; rintro e w1 ⟨rfl, hb1⟩)
          go_ret
          exact ⟨ret_bool (by rw [z3.out]; exact (all_take HU.out HR.out).symm), hB ▸ hbl.trans (hb1.mono (by have := hbl.size; omega))⟩
        · go_wp2_with (go_at_call 95; refine (hcall _ hs2).mono ?_; rintro e w1 ⟨rfl, hb1⟩)
          go_roundw
          case rel => exact ⟨k + 1, by omega, by go_num, HF.out.step HU.out HR.out, hb.below hb1 hb.lt, hbl.trans (hb1.mono (by have := hbl.size; omega))⟩
          case measure => simp [intOf]; omega
      · obtain rfl : k = ts.length := by omega
        go_wp2
        go_ret
        exact ⟨ret_bool (by rw [z3.out]; exact HF.out.all.symm), hB ▸ hbl⟩
  · have z3 : Hid (t.low n = false) := by
      show _ = _
      rw [HL.out]
      rcases Int.lt_or_le t.base 0 with h0 | h0
      · simp; omega
      · have : ¬ t.base < n := fun h => hok ⟨h0, h⟩
        simp [this]
    clear HL
    by_cases h0 : t.base < 0
    · have z1 : decide (t.base < 0) = true := by simp; omega
      go_enter Try.func95, Try.ntmps95
      go_wp2
      go_ret
      exact ⟨ret_bool z3.out.symm, hB ▸ (Below.refl B w).alloc (by omega) _⟩
    · have z1 : decide (t.base < 0) = false := by simp; omega
      have z2 : decide (n ≤ t.base) = true := by simp; omega
      go_enter Try.func95, Try.ntmps95
      go_wp2
      go_ret
      exact ⟨ret_bool z3.out.symm, hB ▸ (Below.refl B w).alloc (by omega) _⟩

/-- Whether a type is right among so many bases. -/
def rightB (n : Int) (t : Ty) : Bool := fewB 1000 60 t && t.low n

set_option maxRecDepth 100000 in
set_option maxHeartbeats 1000000 in
theorem refRight_calls (n : Int) (t : Ty) (ok : Nat → Prop) (sl : Value) (w : World) (hh : Holds w ok t.args sl) (hsz : t.size ≤ 1000000) :
    Calls Try.prog 78 #[tv sl t.base, .int .i64 n] w fun e w' => e = .returned (.bool (rightB n t)) ∧ Below w.heap.size w w' := by
  obtain ⟨a, cap, rfl, _⟩ := hh.shape
  obtain ⟨B, hB⟩ : ∃ B, w.heap.size = B := ⟨_, rfl⟩
  obtain ⟨r, hr⟩ : ∃ r, fewB 1000 60 t = r := ⟨_, rfl⟩
  have hcall := fun W (hW : Holds W ok t.args (.slice a t.args.length cap)) => Few_calls 1000 (by omega) 60 (by omega) t ok _ W hW
  have hres : Hid (rightB n t = (r && t.low n)) := by show _ = _; rw [← hr]; rfl
  rw [hr] at hcall
  clear hr
  go_enter Try.func78, Try.ntmps78
  go_wp2_with fail
  generalize hw0 : w.alloc (.cells #[.slice a t.args.length cap, .int .i64 t.base] 24) = w0
  have b0 : Blk w0 B 24 #[.slice a t.args.length cap, .int .i64 t.base] := by rw [← hw0]; exact Blk.new' w B 24 _ hB
  have bl0 : Below B w w0 := by rw [← hw0]; exact (Below.refl B w).alloc (by omega) _
  have hh0 : Holds w0 ok t.args (.slice a t.args.length cap) := hh.bel (hB ▸ bl0)
  clear hw0
  have c0 := b0.cell 0
  have c1 := b0.cell 1
  cases r
  · go_wp2_with (go_at_call 49; refine (hcall _ hh0).mono ?_; rintro e w1 ⟨rfl, hb1⟩)
    go_ret
    exact ⟨ret_bool (by rw [hres.out]; rfl), hB ▸ bl0.trans (hb1.mono (by have := bl0.size; omega))⟩
  · go_wp2_with (first
      | (go_at_call 49; refine (hcall _ hh0).mono ?_; rintro e w1 ⟨rfl, hb1⟩; have hh1 := hh0.bel hb1; have b1 := b0.below hb1 b0.lt; have d0 := b1.cell 0; have d1 := b1.cell 1)
      | (go_at_call 95; refine (low_calls n t ok _ _ hh1 hsz).mono ?_; rintro e w2 ⟨rfl, hb2⟩))
    go_ret
    have hz := bl0.size
    have hz1 := hb1.size
    exact ⟨ret_bool (by rw [hres.out]; rfl), hB ▸ (bl0.trans (hb1.mono (by omega))).trans (hb2.mono (by omega))⟩
end Go.Proofs.Ytckagmagjogmnaa
