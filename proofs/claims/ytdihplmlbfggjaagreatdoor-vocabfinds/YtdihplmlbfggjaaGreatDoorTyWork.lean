/-
  TyWork: several texts in one file.
-/
import Derived.Test.YtdihplmlbfggjaaGreatDoorTyBase
import Derived.Lib.QuietBelow
import Derived.Laws.AppendOwn
import Derived.Laws.OwnMore
import Derived.Laws.MakeOwn
import Derived.Maps.AppendAt
import Derived.Deep.AppendLies
import Derived.Deep.RegionLaw
import Derived.Lib.AppendZeros
import Derived.Laws.AppendOwnNone
/-
  The contracts of the document's own few, Few, low, Right, and of the law's few.
-/
namespace Go.Proofs.YtdihplmlbfggjaaGreatDoor
open Go Go.RowKit

theorem fewL_drop (f : Ty → Nat) (most : Nat) {ts : List Ty} {k : Nat} {u : Ty} (n : Nat) (h : ts[k]? = some u) (hn : n ≤ most) : fewL f most (ts.drop k) n = fewL f most (ts.drop (k + 1)) (n + f u) := by
  obtain ⟨hl, he⟩ := List.getElem?_eq_some_iff.1 h
  rw [List.drop_eq_getElem_cons hl, he]
  simp [fewL, hn]
theorem fewL_pos (f : Ty → Nat) (most : Nat) (l : List Ty) (n : Nat) (h : 1 ≤ n) : 1 ≤ fewL f most l n := by
  induction l generalizing n with
  | nil => exact h
  | cons t r ih =>
    unfold fewL
    split
    · exact ih _ (by omega)
    · exact h
theorem few_pos (most d : Nat) (t : Ty) : 1 ≤ few most d t := by
  cases d with
  | zero => unfold few; omega
  | succ d => unfold few; exact fewL_pos _ _ _ _ (Nat.le_refl _)
theorem fewL_stop (f : Ty → Nat) (most : Nat) (l : List Ty) (n : Nat) (hn : ¬ n ≤ most) : fewL f most l n = n := by
  cases l <;> simp [fewL, hn]

set_option maxRecDepth 100000 in
set_option maxHeartbeats 1000000 in
theorem few_calls (most : Nat) (hmost : most ≤ 1000) (d : Nat) : ∀ (t : Ty) (m : Int) (ok : Nat → Prop) (sl : Value) (w : World), m = d → d ≤ 70 → Holds w ok t.args sl →
    Calls Tryz.prog 32 #[tv sl t.base, .int .i64 (most : Int), .int .i64 m] w fun e w' => e = .returned (.int .i64 (few most d t : Int)) ∧ Below w.heap.size w w' := by
  induction d with
  | zero =>
    intro t m ok sl w hm _ hh
    obtain rfl : m = 0 := by simpa using hm
    clear hm
    obtain ⟨a, cap, rfl, hcap, hat⟩ := hh.shape
    go_enter Tryz.func32, Tryz.ntmps32
    go_wp2
    go_ret
    exact ⟨ret_int (by simp [few]), (Below.refl _ _).alloc (Nat.le_refl _) _⟩
  | succ d ih =>
  intro t m ok sl w hm hd hh
  obtain ⟨ts, hts⟩ : ∃ ts, t.args = ts := ⟨_, rfl⟩
  have hR : Hid (few most (d + 1) t = fewL (few most d) most ts 1) := by show _ = _; unfold few; rw [hts]
  rw [hts] at hh
  obtain ⟨a, cap, rfl, hcap, hat⟩ := hh.shape
  have HA : Hid _ := hat
  clear hat hh
  have hmd : most * (d + 1) ≤ 1000 * 70 := Nat.mul_le_mul hmost (by omega)
  have HM : Hid (m = ((d + 1 : Nat) : Int)) := hm
  have hm1 : 1 ≤ m := by omega
  have hm2 : m ≤ 70 := by omega
  have hmB : decide (m ≤ 0) = false := by simp; omega
  clear hm
  obtain ⟨B, hB⟩ : ∃ B, w.heap.size = B := ⟨_, rfl⟩
  go_enter Tryz.func32, Tryz.ntmps32
  go_wp2
  generalize hw0 : w.alloc (.cells #[.slice a ts.length cap, .int .i64 t.base] 49) = w0
  have b0 : Blk w0 B 49 #[.slice a ts.length cap, .int .i64 t.base] := by rw [← hw0]; exact Blk.new' w B 49 _ hB
  have bl0 : Below B w w0 := by rw [← hw0]; exact (Below.refl B w).alloc (by omega) _
  clear hw0
  go_loopw [7, 8] (fun n i wr => ∃ k c : Nat, k ≤ ts.length ∧ i = .int .i64 k ∧ n = .int .i64 (c : Int) ∧ c ≤ 200000 ∧ k < c ∧ Hid (fewL (few most d) most (ts.drop k) c = fewL (few most d) most ts 1) ∧ Blk wr B 49 #[.slice a ts.length cap, .int .i64 t.base] ∧ Below B w wr)
    (fun _ i _ => ts.length - (intOf i).toNat)
  case atStart => exact ⟨0, 1, Nat.zero_le _, rfl, rfl, by omega, by omega, by show _ = _; simp, b0, bl0⟩
  case round =>
    clear b0 bl0
    obtain ⟨k, c, hk, rfl, rfl, hc, hkc, HF, hb, hbl⟩ := hrel
    have r0 := hb.cell 0
    by_cases hlt : k < ts.length
    · by_cases hcm : c ≤ most
      · obtain ⟨u, hu⟩ : ∃ u, ts[k]? = some u := ⟨_, List.getElem?_eq_getElem hlt⟩
        obtain ⟨g, o, s, rfl, _, hg, a0, a1, hs⟩ := HA.out k u hu
        have q0 := (cat hbl (by omega)).trans a0
        have q1 := (cat hbl (by omega)).trans a1
        have hS : Hid (fewL (few most d) most (ts.drop (k + 1)) (c + few most d u) = fewL (few most d) most ts 1) := by
          show _ = _
          rw [← fewL_drop _ _ _ hu hcm]; exact HF.out
        have hfu := few_le most d u
        have hfp := few_pos most d u
        have y1 : (0 : Int) ≤ (k : Int) := by omega
        have y2 : (k : Int) < (ts.length : Int) := by omega
        have y3 : decide ((c : Int) ≤ (most : Int)) = true := by simp; omega
        have hs2 : Holds wr ok u.args s := hs.bel (hB ▸ hbl)
        clear a0 a1 hu
        go_wp2_with (go_at_call 32; refine (ih u _ ok s _ (by have := HM.out; omega) (by omega) hs2).mono ?_; rintro e w1 ⟨rfl, hb1⟩)
        go_roundw
        case rel => exact ⟨k + 1, c + few most d u, by omega, by go_num, by go_num, by omega, by omega, hS, hb.below hb1 hb.lt, hbl.trans (hb1.mono (by have := hbl.size; omega))⟩
        case measure => simp [intOf]; omega
      · have y3 : decide ((c : Int) ≤ (most : Int)) = false := by simp; omega
        have hret : Hid (c = few most (d + 1) t) := by show _ = _; rw [hR.out, ← HF.out, fewL_stop _ _ _ _ hcm]
        go_wp2
        go_ret
        exact ⟨ret_int (by rw [← hret.out]), hB ▸ hbl⟩
    · obtain rfl : k = ts.length := by omega
      have hret : Hid (c = few most (d + 1) t) := by show _ = _; rw [hR.out, ← HF.out]; simp [fewL]
      go_wp2
      go_ret
      exact ⟨ret_int (by rw [← hret.out]), hB ▸ hbl⟩

/-- Few, of so many types, so deep. -/
def fewB (most d : Nat) (t : Ty) : Bool := decide (t.size ≤ most ∧ t.depth ≤ d)
theorem fewB_eq (most d : Nat) (t : Ty) : decide ((few most d t : Int) ≤ (most : Int)) = fewB most d t := by
  unfold fewB
  rw [decide_eq_decide]
  have := few_iff most d t
  omega

set_option maxRecDepth 100000 in
set_option maxHeartbeats 1000000 in
theorem Few_calls (most : Nat) (hmost : most ≤ 1000) (d : Nat) (hd : d ≤ 70) (t : Ty) (ok : Nat → Prop) (sl : Value) (w : World) (hh : Holds w ok t.args sl) :
    Calls Tryz.prog 19 #[tv sl t.base, .int .i64 (most : Int), .int .i64 (d : Int)] w fun e w' => e = .returned (.bool (fewB most d t)) ∧ Below w.heap.size w w' := by
  obtain ⟨a, cap, rfl, _⟩ := hh.shape
  have HF : Hid (decide (few most d t ≤ most) = fewB most d t) := by
    show _ = _
    rw [← fewB_eq]
    simp
  go_enter Tryz.func19, Tryz.ntmps19
  go_wp2_with (go_at_call 32; refine (few_calls most hmost d t _ ok _ _ rfl hd (hh.alloc _)).mono ?_; rintro e w1 ⟨rfl, hb1⟩)
  go_ret
  exact ⟨ret_bool HF.out, ((Below.refl _ _).alloc (Nat.le_refl _) _).trans (hb1.mono (by simp))⟩


-- LOW
theorem all_take {ts : List Ty} {p : Ty → Bool} {k : Nat} {u : Ty} (h : ts[k]? = some u) (hp : p u = false) : ts.all p = false := by
  rw [List.all_eq_false]
  exact ⟨u, List.mem_of_getElem? h, by simp [hp]⟩
def AllUp (p : Ty → Bool) (ts : List Ty) (k : Nat) : Prop := ∀ i t, i < k → ts[i]? = some t → p t = true
theorem AllUp.zero (p : Ty → Bool) (ts : List Ty) : AllUp p ts 0 := fun _ _ h => by omega
theorem AllUp.step {p : Ty → Bool} {ts : List Ty} {k : Nat} {u : Ty} (h : AllUp p ts k) (hu : ts[k]? = some u) (hp : p u = true) : AllUp p ts (k + 1) := by
  intro i t hi ht
  rcases Nat.lt_or_ge i k with hl | hl
  · exact h i t hl ht
  · obtain rfl : i = k := by omega
    rw [hu] at ht; cases ht; exact hp
theorem AllUp.all {p : Ty → Bool} {ts : List Ty} (h : AllUp p ts ts.length) : ts.all p = true := by
  rw [List.all_eq_true]
  intro t ht
  obtain ⟨i, hi⟩ := List.getElem?_of_mem ht
  exact h i t (List.getElem?_eq_some_iff.1 hi).1 hi

theorem lowL_all (n : Int) (ts : List Ty) : lowL n ts = ts.all (Ty.low n) := by
  induction ts with
  | nil => rfl
  | cons t r ih => simp [lowL, ih]

set_option maxRecDepth 100000 in
set_option maxHeartbeats 1000000 in
theorem low_calls (n : Int) (t : Ty) : ∀ (ok : Nat → Prop) (sl : Value) (w : World), Holds w ok t.args sl → t.size ≤ 1000000 →
    Calls Tryz.prog 39 #[tv sl t.base, .int .i64 n] w fun e w' => e = .returned (.bool (t.low n)) ∧ Below w.heap.size w w' := by
  induction t using Ty.ind with
  | h t ih =>
  intro ok sl w hh hsz
  obtain ⟨ts, hts⟩ : ∃ ts, t.args = ts := ⟨_, rfl⟩
  have hsz2 := t.size_eq
  have hlo := t.low_eq n
  rw [hts] at hh ih hsz2 hlo
  rw [lowL_all] at hlo
  have HL : Hid _ := hlo
  clear hlo
  obtain ⟨a, cap, rfl, hcap, hat⟩ := hh.shape
  have HA : Hid _ := hat
  clear hat hh
  have hln := sizeL_length ts
  obtain ⟨B, hB⟩ : ∃ B, w.heap.size = B := ⟨_, rfl⟩
  by_cases hok : 0 ≤ t.base ∧ t.base < n
  · have z1 : decide (t.base < 0) = false := by simp; omega
    have z2 : decide (n ≤ t.base) = false := by simp; omega
    have z3 : Hid (t.low n = ts.all (Ty.low n)) := by show _ = _; rw [HL.out]; simp [hok.1, hok.2]
    clear HL
    go_enter Tryz.func39, Tryz.ntmps39
    go_wp2
    generalize hw0 : w.alloc (.cells #[.slice a ts.length cap, .int .i64 t.base] 49) = w0
    have b0 : Blk w0 B 49 #[.slice a ts.length cap, .int .i64 t.base] := by rw [← hw0]; exact Blk.new' w B 49 _ hB
    have bl0 : Below B w w0 := by rw [← hw0]; exact (Below.refl B w).alloc (by omega) _
    clear hw0
    go_loopw [5] (fun i wr => ∃ k : Nat, k ≤ ts.length ∧ i = .int .i64 k ∧ Hid (AllUp (Ty.low n) ts k) ∧ Blk wr B 49 #[.slice a ts.length cap, .int .i64 t.base] ∧ Below B w wr)
      (fun i _ => ts.length - (intOf i).toNat)
    case atStart => exact ⟨0, Nat.zero_le _, rfl, AllUp.zero _ _, b0, bl0⟩
    case round =>
      clear b0 bl0
      obtain ⟨k, hk, rfl, HF, hb, hbl⟩ := hrel
      have r0 := hb.cell 0
      by_cases hlt : k < ts.length
      · obtain ⟨u, hu⟩ : ∃ u, ts[k]? = some u := ⟨_, List.getElem?_eq_getElem hlt⟩
        obtain ⟨g, o, s, rfl, _, hg, a0, a1, hs⟩ := HA.out k u hu
        have q0 := (cat hbl (by omega)).trans a0
        have q1 := (cat hbl (by omega)).trans a1
        have hm := List.mem_of_getElem? hu
        have hus := size_mem hm
        have y1 : (0 : Int) ≤ (k : Int) := by omega
        have y2 : (k : Int) < (ts.length : Int) := by omega
        have hs2 : Holds wr ok u.args s := hs.bel (hB ▸ hbl)
        have HU : Hid (ts[k]? = some u) := hu
        clear a0 a1 hu
        obtain ⟨r, hr⟩ : ∃ r, u.low n = r := ⟨_, rfl⟩
        have HR : Hid (u.low n = r) := hr
        have hcall := fun W (hW : Holds W ok u.args s) => ih u hm ok s W hW (by omega)
        rw [hr] at hcall
        clear hr
        cases r
        · go_wp2_with (go_at_call 39; refine (hcall _ hs2).mono ?_; rintro e w1 ⟨rfl, hb1⟩)
          go_ret
          exact ⟨ret_bool (by rw [z3.out]; exact (all_take HU.out HR.out).symm), hB ▸ hbl.trans (hb1.mono (by have := hbl.size; omega))⟩
        · go_wp2_with (go_at_call 39; refine (hcall _ hs2).mono ?_; rintro e w1 ⟨rfl, hb1⟩)
          go_roundw
          case rel => exact ⟨k + 1, by omega, by go_num, HF.out.step HU.out HR.out, hb.below hb1 hb.lt, hbl.trans (hb1.mono (by have := hbl.size; omega))⟩
          case measure => simp [intOf]; omega
      · obtain rfl : k = ts.length := by omega
        go_wp2
        go_ret
        exact ⟨ret_bool (by rw [z3.out]; exact HF.out.all.symm), hB ▸ hbl⟩
  · have z3 : Hid (t.low n = false) := by
      show _ = _
      rw [HL.out]
      rcases Int.lt_or_le t.base 0 with h0 | h0
      · simp; omega
      · have : ¬ t.base < n := fun h => hok ⟨h0, h⟩
        simp [this]
    clear HL
    by_cases h0 : t.base < 0
    · have z1 : decide (t.base < 0) = true := by simp; omega
      go_enter Tryz.func39, Tryz.ntmps39
      go_wp2
      go_ret
      exact ⟨ret_bool z3.out.symm, hB ▸ (Below.refl B w).alloc (by omega) _⟩
    · have z1 : decide (t.base < 0) = false := by simp; omega
      have z2 : decide (n ≤ t.base) = true := by simp; omega
      go_enter Tryz.func39, Tryz.ntmps39
      go_wp2
      go_ret
      exact ⟨ret_bool z3.out.symm, hB ▸ (Below.refl B w).alloc (by omega) _⟩

/-- Whether a type is right among so many bases. -/
def rightB (n : Int) (t : Ty) : Bool := fewB 1000 60 t && t.low n

set_option maxRecDepth 100000 in
set_option maxHeartbeats 1000000 in
theorem refRight_calls (n : Int) (t : Ty) (ok : Nat → Prop) (sl : Value) (w : World) (hh : Holds w ok t.args sl) (hsz : t.size ≤ 1000000) :
    Calls Tryz.prog 27 #[tv sl t.base, .int .i64 n] w fun e w' => e = .returned (.bool (rightB n t)) ∧ Below w.heap.size w w' := by
  obtain ⟨a, cap, rfl, _⟩ := hh.shape
  obtain ⟨B, hB⟩ : ∃ B, w.heap.size = B := ⟨_, rfl⟩
  obtain ⟨r, hr⟩ : ∃ r, fewB 1000 60 t = r := ⟨_, rfl⟩
  have hcall := fun W (hW : Holds W ok t.args (.slice a t.args.length cap)) => Few_calls 1000 (by omega) 60 (by omega) t ok _ W hW
  have hres : Hid (rightB n t = (r && t.low n)) := by show _ = _; rw [← hr]; rfl
  rw [hr] at hcall
  clear hr
  go_enter Tryz.func27, Tryz.ntmps27
  go_wp2_with fail
  generalize hw0 : w.alloc (.cells #[.slice a t.args.length cap, .int .i64 t.base] 49) = w0
  have b0 : Blk w0 B 49 #[.slice a t.args.length cap, .int .i64 t.base] := by rw [← hw0]; exact Blk.new' w B 49 _ hB
  have bl0 : Below B w w0 := by rw [← hw0]; exact (Below.refl B w).alloc (by omega) _
  have hh0 : Holds w0 ok t.args (.slice a t.args.length cap) := hh.bel (hB ▸ bl0)
  clear hw0
  have c0 := b0.cell 0
  have c1 := b0.cell 1
  cases r
  · go_wp2_with (go_at_call 19; refine (hcall _ hh0).mono ?_; rintro e w1 ⟨rfl, hb1⟩)
    go_ret
    exact ⟨ret_bool (by rw [hres.out]; rfl), hB ▸ bl0.trans (hb1.mono (by have := bl0.size; omega))⟩
  · go_wp2_with (first
      | (go_at_call 19; refine (hcall _ hh0).mono ?_; rintro e w1 ⟨rfl, hb1⟩; have hh1 := hh0.bel hb1; have b1 := b0.below hb1 b0.lt; have d0 := b1.cell 0; have d1 := b1.cell 1)
      | (go_at_call 39; refine (low_calls n t ok _ _ hh1 hsz).mono ?_; rintro e w2 ⟨rfl, hb2⟩))
    go_ret
    have hz := bl0.size
    have hz1 := hb1.size
    exact ⟨ret_bool (by rw [hres.out]; rfl), hB ▸ (bl0.trans (hb1.mono (by omega))).trans (hb2.mono (by omega))⟩
end Go.Proofs.YtdihplmlbfggjaaGreatDoor

/-
  The contract of the document's own Same.
-/
namespace Go.Proofs.YtdihplmlbfggjaaGreatDoor
open Go Go.RowKit Go.Sort

def SameUp (ts us : List Ty) (k : Nat) : Prop := ∀ i t u, i < k → ts[i]? = some t → us[i]? = some u → t.same u = true
theorem SameUp.step {ts us : List Ty} {k : Nat} {t u : Ty} (h : SameUp ts us k) (ht : ts[k]? = some t) (hu : us[k]? = some u) (hp : t.same u = true) : SameUp ts us (k + 1) := by
  intro i a b hi ha hb
  rcases Nat.lt_or_ge i k with hl | hl
  · exact h i a b hl ha hb
  · obtain rfl : i = k := by omega
    rw [ht] at ha; rw [hu] at hb; cases ha; cases hb; exact hp
theorem sameL_of_up (ts us : List Ty) (hl : ts.length = us.length) (h : ∀ (i : Nat) (t u : Ty), ts[i]? = some t → us[i]? = some u → t.same u = true) : sameL ts us = true := by
  induction ts generalizing us with
  | nil => cases us with
    | nil => rfl
    | cons u us => simp at hl
  | cons t ts ih => cases us with
    | nil => simp at hl
    | cons u us =>
      have h0 := h 0 t u (by simp) (by simp)
      have := ih us (by simpa using hl) (fun i a b ha hb => h (i + 1) a b (by simpa using ha) (by simpa using hb))
      simp [sameL, h0, this]
theorem sameL_no (ts us : List Ty) (i : Nat) (t u : Ty) (ht : ts[i]? = some t) (hu : us[i]? = some u) (h : t.same u = false) : sameL ts us = false := by
  induction ts generalizing us i with
  | nil => simp at ht
  | cons a ts ih => cases us with
    | nil => simp at hu
    | cons b us =>
      cases i with
      | zero => simp at ht hu; subst ht; subst hu; simp [sameL, h]
      | succ i => have := ih us i (by simpa using ht) (by simpa using hu); simp [sameL, this]
theorem sameL_len (ts us : List Ty) (h : ts.length ≠ us.length) : sameL ts us = false := by
  cases hs : sameL ts us with
  | false => rfl
  | true => exact absurd (sameL_length hs) h

set_option maxRecDepth 100000 in
set_option maxHeartbeats 1600000 in
theorem Same_calls (t : Ty) : ∀ (t' : Ty) (ok ok' : Nat → Prop) (sl sl' : Value) (w : World), Holds w ok t.args sl → Holds w ok' t'.args sl' → t.size ≤ 1000000 →
    Calls Tryz.prog 15 #[tv sl t.base, tv sl' t'.base] w fun e w' => e = .returned (.bool (t.same t')) ∧ Below w.heap.size w w' := by
  induction t using Ty.ind with
  | h t ih =>
  intro t' ok ok' sl sl' w hh hh' hsz
  obtain ⟨ts, hts⟩ : ∃ ts, t.args = ts := ⟨_, rfl⟩
  obtain ⟨us, hus⟩ : ∃ us, t'.args = us := ⟨_, rfl⟩
  have hsz2 := t.size_eq
  have hse := t.same_eq t'
  rw [hts] at hh ih hsz2 hse
  rw [hus] at hh' hse
  have HL : Hid _ := hse
  clear hse
  obtain ⟨a, cap, rfl, hcap, hat⟩ := hh.shape
  have HA : Hid _ := hat
  obtain ⟨a', cap', rfl, hcap', hat'⟩ := hh'.shape
  have HA' : Hid _ := hat'
  clear hat hh hat' hh'
  have hln := sizeL_length ts
  obtain ⟨B, hB⟩ : ∃ B, w.heap.size = B := ⟨_, rfl⟩
  by_cases hba : t.base = t'.base
  · have z1 : (t.base != t'.base) = false := by simp [hba]
    by_cases hle : ts.length = us.length
    · have z2 : ((ts.length : Int) != (us.length : Int)) = false := by simp [hle]
      have HR : Hid (t.same t' = sameL ts us) := by show _ = _; rw [HL.out, hba]; simp
      have HLE : Hid (ts.length = us.length) := hle
      clear HL hba hle
      go_enter Tryz.func15, Tryz.ntmps15
      go_wp2
      generalize hw0 : (w.alloc (.cells #[.slice a ts.length cap, .int .i64 t.base] 49)).alloc (.cells #[.slice a' us.length cap', .int .i64 t'.base] 49) = w0
      have b0 : Blk w0 B 49 #[.slice a ts.length cap, .int .i64 t.base] := by rw [← hw0]; exact (Blk.new' w B 49 _ hB).alloc _
      have b1 : Blk w0 (B + 1) 49 #[.slice a' us.length cap', .int .i64 t'.base] := by rw [← hw0]; exact Blk.new' _ (B + 1) 49 _ (by simp [hB])
      have bl0 : Below B w w0 := by rw [← hw0]; exact ((Below.refl B w).alloc (by omega) _).alloc (by simp; omega) _
      clear hw0
      go_loopw [5] (fun i wr => ∃ k : Nat, k ≤ ts.length ∧ i = .int .i64 k ∧ Hid (SameUp ts us k) ∧ Blk wr B 49 #[.slice a ts.length cap, .int .i64 t.base] ∧ Blk wr (B + 1) 49 #[.slice a' us.length cap', .int .i64 t'.base] ∧ Below B w wr)
        (fun i _ => ts.length - (intOf i).toNat)
      case atStart => exact ⟨0, Nat.zero_le _, rfl, fun _ _ _ h => by omega, b0, b1, bl0⟩
      case round =>
        clear b0 b1 bl0
        obtain ⟨k, hk, rfl, HF, hb, hb', hbl⟩ := hrel
        have r0 := hb.cell 0
        have r1 := hb'.cell 0
        by_cases hlt : k < ts.length
        · obtain ⟨u, hu⟩ : ∃ u, ts[k]? = some u := ⟨_, List.getElem?_eq_getElem hlt⟩
          have hlt' : k < us.length := by have := HLE.out; omega
          obtain ⟨v, hv⟩ : ∃ v, us[k]? = some v := ⟨_, List.getElem?_eq_getElem hlt'⟩
          obtain ⟨g, o, s, rfl, _, hg, a0, a1, hs⟩ := HA.out k u hu
          obtain ⟨g', o', s', rfl, _, hg', c0, c1, hs'⟩ := HA'.out k v hv
          have q0 := fun d os => cell_regrown ((cat hbl (by omega)).trans a0) d os
          have q1 := fun d os => cell_regrown ((cat hbl (by omega)).trans a1) d os
          have p0 := fun d os => cell_regrown ((cat hbl (by omega)).trans c0) d os
          have p1 := fun d os => cell_regrown ((cat hbl (by omega)).trans c1) d os
          have m0 := fun d os => cell_regrown r0 d os
          have m1 := fun d os => cell_regrown r1 d os
          have hm := List.mem_of_getElem? hu
          have hus2 := size_mem hm
          have y1 : (0 : Int) ≤ (k : Int) := by omega
          have y2 : (k : Int) < (ts.length : Int) := by omega
          have y3 : (k : Int) < (us.length : Int) := by omega
          have hs2 : Holds wr ok u.args s := hs.bel (hB ▸ hbl)
          have hs2' : Holds wr ok' v.args s' := hs'.bel (hB ▸ hbl)
          have HU : Hid (ts[k]? = some u) := hu
          have HV : Hid (us[k]? = some v) := hv
          clear a0 a1 c0 c1 hu hv
          obtain ⟨r, hr⟩ : ∃ r, u.same v = r := ⟨_, rfl⟩
          have HR2 : Hid (u.same v = r) := hr
          have CC : Hid (∀ d os, Calls Tryz.prog 15 #[tv s u.base, tv s' v.base] (grow (redrawn wr d) os) fun e w'' => e = .returned (.bool r) ∧ ∃ p : Regrown, w'' = grow (redrawn wr p.d) p.os) := fun d os =>
            Calls.regrown_of (by rw [← hr]; exact ih u hm v ok ok' s s' _ (hs2.bel (below_regrown wr d os)) (hs2'.bel (below_regrown wr d os)) (by omega))
          clear hr
          go_wp2_with fail
          refine wp_region_quiet_below (by kernel_rfl) (by kernel_rfl) ?_
          repeat (go_big_quiet_step ((go_at_call 15; exact CC.out _ _)))
          refine wpQuiet_nil ?_
          intro w1 hw'
          obtain ⟨p, hw''⟩ := hw'
          have hb1 : Below wr.heap.size wr w1 := by rw [hw'']; exact below_regrown _ _ _
          clear hw'' p q0 q1 p0 p1 m0 m1
          have hB1 : Below B w w1 := hbl.trans (hb1.mono (by have := hbl.size; omega))
          cases r
          · go_wp2
            go_ret
            exact ⟨ret_bool (by rw [HR.out]; exact (sameL_no _ _ _ _ _ HU.out HV.out HR2.out).symm), hB ▸ hB1⟩
          · go_wp2
            go_roundw
            case rel => exact ⟨k + 1, by omega, by go_num, HF.out.step HU.out HV.out HR2.out, hb.below hb1 hb.lt, hb'.below hb1 hb'.lt, hB1⟩
            case measure => simp [intOf]; omega
        · obtain rfl : k = ts.length := by omega
          go_wp2
          go_ret
          exact ⟨ret_bool (by rw [HR.out]; exact (sameL_of_up _ _ HLE.out fun i x y hx hy => HF.out i x y (List.getElem?_eq_some_iff.1 hx).1 hx hy).symm), hB ▸ hbl⟩
    · have z2 : ((ts.length : Int) != (us.length : Int)) = true := by simp; omega
      have HR : Hid (t.same t' = false) := by show _ = _; rw [HL.out, sameL_len _ _ hle]; simp
      clear HL hba hle
      go_enter Tryz.func15, Tryz.ntmps15
      go_wp2
      go_ret
      exact ⟨ret_bool HR.out.symm, hB ▸ ((Below.refl B w).alloc (by omega) _).alloc (by simp; omega) _⟩
  · have z1 : (t.base != t'.base) = true := by simp [hba]
    have HR : Hid (t.same t' = false) := by show _ = _; rw [HL.out]; simp [hba]
    clear HL hba
    go_enter Tryz.func15, Tryz.ntmps15
    go_wp2
    go_ret
    exact ⟨ret_bool HR.out.symm, hB ▸ ((Below.refl B w).alloc (by omega) _).alloc (by simp; omega) _⟩

end Go.Proofs.YtdihplmlbfggjaaGreatDoor

/-
  A slice of types that is being made: its own row, and what its types hold elsewhere.
-/
namespace Go.Proofs.YtdihplmlbfggjaaGreatDoor
open Go Go.RowKit

/-- The cells of types: each one's arguments' slice, and its base. -/
def pcells : List (Value × Ty) → List Value
  | [] => []
  | p :: r => p.1 :: .int .i64 p.2.base :: pcells r
theorem pcells_append (a b : List (Value × Ty)) : pcells (a ++ b) = pcells a ++ pcells b := by
  induction a with
  | nil => rfl
  | cons p a ih => simp [pcells, ih]
theorem pcells_length (a : List (Value × Ty)) : (pcells a).length = a.length * 2 := by
  induction a with
  | nil => rfl
  | cons p a ih => simp [pcells, ih]; omega
theorem pcells_get (a : List (Value × Ty)) (i : Nat) (p : Value × Ty) (h : a[i]? = some p) : (pcells a)[i * 2]? = some p.1 ∧ (pcells a)[i * 2 + 1]? = some (.int .i64 p.2.base) := by
  induction a generalizing i with
  | nil => simp at h
  | cons q a ih =>
    cases i with
    | zero => simp at h; subst h; simp [pcells]
    | succ i =>
      have := ih i (by simpa using h)
      rw [show (i + 1) * 2 = i * 2 + 1 + 1 by omega]
      simpa [pcells] using this

/-- THE SLICE v, OF ELEMENTS OF TYPE e, IS BEING MADE in blocks from M on: so far of these. -/
structure Mk (w : World) (M : Nat) (e : TypeId) (v : Value) (ps : List (Value × Ty)) : Prop where
  row : w.ownsRow M e 2 v ps.length (pcells ps)
  kid : ∀ p ∈ ps, Holds w (fun b => M ≤ b ∧ v.ownBlock ≠ some b) p.2.args p.1

theorem Mk.nil (w : World) (M : Nat) (e : TypeId) : Mk w M e (.slice none 0 0) [] := ⟨World.ownsRow_nil w M e 2, fun p hp => by cases hp⟩
theorem Mk.keep {w w' : World} {M : Nat} {e : TypeId} {v : Value} {ps : List (Value × Ty)} (h : Mk w M e v ps) (hk : ∀ b, M ≤ b → b < w.heap.size → w'.heap[b]? = w.heap[b]?) : Mk w' M e v ps := by
  refine ⟨?_, fun p hp => (h.kid p hp).keep fun b hb ho => ⟨hk b ho.1 hb, ho⟩⟩
  obtain ⟨h1, h2⟩ := h.row
  refine ⟨h1, ?_⟩
  rcases h2 with h2 | ⟨g, cap, cur, e1, e2, e3, e4⟩
  · exact .inl h2
  · refine .inr ⟨g, cap, cur, e1, e2, ?_, e4⟩
    have hlt : g < w.heap.size := (Array.getElem?_eq_some_iff.1 e3).1
    rw [hk g e2 hlt]
    exact e3
theorem Mk.bel {w w' : World} {M : Nat} {e : TypeId} {v : Value} {ps : List (Value × Ty)} (h : Mk w M e v ps) (hb : Below w.heap.size w w') : Mk w' M e v ps := h.keep fun b _ hl => hb.block b hl
theorem Mk.drew {w : World} {M : Nat} {e : TypeId} {v : Value} {ps : List (Value × Ty)} (h : Mk w M e v ps) : Mk w.drew M e v ps := h.keep fun _ _ _ => rfl
theorem Mk.alloc {w : World} {M : Nat} {e : TypeId} {v : Value} {ps : List (Value × Ty)} (h : Mk w M e v ps) (o : Obj) : Mk (w.alloc o) M e v ps := h.bel ((Below.refl _ _).alloc (Nat.le_refl _) o)
theorem Mk.set {w : World} {M : Nat} {e : TypeId} {v : Value} {ps : List (Value × Ty)} (h : Mk w M e v ps) {R : Nat} (hR : R < M) (i : Nat) (u : Value) : Mk (w.setCell ⟨R, i, none⟩ u) M e v ps :=
  h.keep fun b hb _ => Below.heap_setCell w ⟨R, i, none⟩ u b (show b ≠ R by omega)
theorem Mk.lt {w : World} {M : Nat} {e : TypeId} {v : Value} {ps : List (Value × Ty)} (h : Mk w M e v ps) (b : Nat) (hb : v.ownBlock = some b) : M ≤ b ∧ b < w.heap.size := h.row.lt b hb
theorem Mk.snoc {w w3 : World} {M L : Nat} {e : TypeId} {v : Value} {ps : List (Value × Ty)} {s : Value} {u : Ty} {o : Obj} {g cap : Nat} (h : Mk w M e v ps) (hs : Holds w (fun b => L ≤ b) u.args s) (hML : M ≤ L)
    (hvL : ∀ b, v.ownBlock = some b → b < L) (hg : (w.alloc o).grownBy w3 v.ownBlock) (hat : v.ownBlock = some g ∨ g = (w.alloc o).heap.size)
    (hown : w3.ownsRow M e 2 (.slice (some ⟨g, 0, none⟩) (ps.length + 1) cap) (ps.length + 1) (pcells ps ++ [s, .int .i64 u.base])) : Mk w3 M e (.slice (some ⟨g, 0, none⟩) (ps.length + 1) cap) (ps ++ [(s, u)]) := by
  have hgo : (Value.slice (some ⟨g, 0, none⟩) (ps.length + 1) cap).ownBlock = some g := rfl
  have hb3 : ∀ b, b < w.heap.size → v.ownBlock ≠ some b → w3.heap[b]? = w.heap[b]? := fun b hb hn =>
    (hg.block b (by simp; omega) (fun e => hn e.symm)).trans (Below.heap_alloc w o b hb)
  have hne : ∀ b, b < w.heap.size → v.ownBlock ≠ some b → (some g : Option Nat) ≠ some b := fun b hb hn e => by
    cases e
    rcases hat with h1 | h1
    · exact hn h1
    · simp at h1; omega
  refine ⟨by rw [List.length_append, pcells_append]; exact hown, fun p hp => ?_⟩
  rcases List.mem_append.1 hp with hp | hp
  · refine (h.kid p hp).keep fun b hb ho => ⟨hb3 b hb ho.2, ho.1, ?_⟩
    rw [hgo]; exact hne b hb ho.2
  · obtain rfl : p = (s, u) := by simpa using hp
    refine hs.keep fun b hb ho => ?_
    have hn : v.ownBlock ≠ some b := fun e => by have := hvL b e; omega
    exact ⟨hb3 b hb hn, Nat.le_trans hML ho, by rw [hgo]; exact hne b hb hn⟩
theorem Mk.holds {w : World} {M : Nat} {e : TypeId} {v : Value} {ps : List (Value × Ty)} (h : Mk w M e v ps) : Holds w (fun b => M ≤ b) (ps.map (·.2)) v := by
  have h' := h.row
  obtain ⟨h1, h2⟩ := h.row
  rcases h2 with ⟨rfl, h2⟩ | ⟨g, cap, cur, rfl, e2, e3, e4, e5, e6⟩
  · have : ps = [] := List.eq_nil_of_length_eq_zero h2
    subst this
    exact Holds.nil _ _ _ _ (fun _ => rfl)
  · have hc := World.ownsRow.cellAt h'
    have hq : ∀ (i : Nat) (u : Ty), (ps.map (·.2))[i]? = some u → ∃ p : Value × Ty, ps[i]? = some p ∧ p.2 = u := by
      intro i u hi
      rw [List.getElem?_map] at hi
      exact Option.map_eq_some_iff.1 hi
    have := Holds.mk (w := w) (ok := fun b => M ≤ b) (ps.map (·.2)) (some ⟨g, 0, none⟩) cap (fun i => ((ps[i]?).map (·.1)).getD undef) (by simpa using e4) (fun h => by cases h)
      (fun i u hi => by
        obtain ⟨p, hp, rfl⟩ := hq i u hi
        obtain ⟨c0, c1⟩ := pcells_get ps i p hp
        have hil := (List.getElem?_eq_some_iff.1 hp).1
        refine ⟨g, 0, rfl, e2, ?_, ?_⟩
        · rw [Nat.zero_add, hc _ (by omega), c0, hp]; rfl
        · rw [Nat.zero_add, hc _ (by omega), c1])
      (fun i u hi => by
        obtain ⟨p, hp, rfl⟩ := hq i u hi
        rw [hp]
        exact (h.kid p (List.mem_of_getElem? hp)).mono fun b _ ho => ho.1)
    rwa [List.length_map] at this

theorem cell_two_new (w : World) (x y : Value) (t : TypeId) : ∀ j u, [x, y][j]? = some u → (w.alloc (.cells #[x, y] t)).cell? ((⟨w.heap.size, 0, none⟩ : Addr).add j) = some u := by
  intro j u h
  have hb := Blk.new w t #[x, y]
  have e : ((⟨w.heap.size, 0, none⟩ : Addr).add j) = ⟨w.heap.size, j, none⟩ := by simp [Addr.add]; omega
  rw [e, hb.cell j]
  simpa using h
theorem cell_alloc_old {w w' : World} {R i : Nat} {x : Value} (hb : Below w.drew.heap.size w.drew w') (hR : R < w.heap.size) (h : w.cell? ⟨R, i, none⟩ = some x) (o : Obj) : (w'.alloc o).cell? ⟨R, i, none⟩ = some x :=
  (World.cell?_of_block (w := w') (Below.heap_alloc w' o R (Nat.lt_of_lt_of_le hR hb.size))).trans ((hb.cell (p := ⟨R, i, none⟩) hR).trans h)
theorem appended {w w' w3 : World} {R : Nat} {t : TypeId} {vs : Array Value} {vk : Value} {o : Obj} (hg : (w'.alloc o).grownBy w3 vk.ownBlock) (h : Blk w R t vs) (hb : Below w.drew.heap.size w.drew w') (hn : vk.ownBlock ≠ some R) : Blk w3 R t vs :=
  ((h.drew.below hb h.lt).alloc o).kept hg (fun e => hn e.symm)

end Go.Proofs.YtdihplmlbfggjaaGreatDoor

/-
  The contracts of slices.Grow (of a nil slice) and slices.Concat, at slices of types.
-/
namespace Go.Proofs.YtdihplmlbfggjaaGreatDoor
open Go Go.RowKit

theorem pcells_inv (a : List (Value × Ty)) (j : Nat) (u : Value) (h : (pcells a)[j]? = some u) : ∃ i p, a[i]? = some p ∧ ((j = i * 2 ∧ u = p.1) ∨ (j = i * 2 + 1 ∧ u = .int .i64 p.2.base)) := by
  induction a generalizing j with
  | nil => simp [pcells] at h
  | cons q a ih =>
    match j with
    | 0 => exact ⟨0, q, rfl, .inl ⟨rfl, by simpa [pcells] using h.symm⟩⟩
    | 1 => exact ⟨0, q, rfl, .inr ⟨rfl, by simpa [pcells] using h.symm⟩⟩
    | j + 2 =>
      obtain ⟨i, p, hp, hh⟩ := ih j (by simpa [pcells] using h)
      refine ⟨i + 1, p, by simpa using hp, ?_⟩
      rcases hh with ⟨e, hu⟩ | ⟨e, hu⟩
      · exact .inl ⟨by omega, hu⟩
      · exact .inr ⟨by omega, hu⟩

/-- The cells of a slice of types, as a list. -/
theorem Holds.row {w : World} {ok : Nat → Prop} {ts : List Ty} {g o n cap : Nat} (h : Holds w ok ts (.slice (some ⟨g, o, none⟩) n cap)) :
    n = ts.length ∧ ∃ qs : List (Value × Ty), qs.map (·.2) = ts ∧ (∀ p ∈ qs, Holds w ok p.2.args p.1) ∧ (∀ j u, (pcells qs)[j]? = some u → w.cell? ⟨g, o + j, none⟩ = some u) ∧ ∀ u ∈ pcells qs, u.oneCell' = true := by
  generalize hv : Value.slice (some ⟨g, o, none⟩) n cap = v at h
  cases h with
  | mk ts a' cap' f hcap hnil hc hr =>
    cases hv
    have hget : ∀ i p, (ts.mapIdx (fun i t => (f i, t)))[i]? = some p → ts[i]? = some p.2 ∧ p.1 = f i := by
      intro i p hp
      rw [List.getElem?_mapIdx] at hp
      obtain ⟨t, ht, rfl⟩ := Option.map_eq_some_iff.1 hp
      exact ⟨ht, rfl⟩
    have hcell : ∀ j u, (pcells (ts.mapIdx (fun i t => (f i, t))))[j]? = some u → w.cell? ⟨g, o + j, none⟩ = some u ∧ u.oneCell' = true := by
      intro j u hj
      obtain ⟨i, p, hp, hh⟩ := pcells_inv _ j u hj
      obtain ⟨ht, hf⟩ := hget i p hp
      obtain ⟨g', o', e, _, c0, c1⟩ := hc i p.2 ht
      cases e
      rcases hh with ⟨rfl, rfl⟩ | ⟨rfl, rfl⟩
      · obtain ⟨a1, cp, hs, _⟩ := (hr i p.2 ht).shape
        exact ⟨by rw [hf]; exact c0, by rw [hf, hs]; rfl⟩
      · exact ⟨by rw [← c1]; congr 2, rfl⟩
    refine ⟨rfl, _, ?_, ?_, fun j u hj => (hcell j u hj).1, ?_⟩
    · apply List.ext_getElem?
      intro i
      rw [List.getElem?_map, List.getElem?_mapIdx]
      cases ts[i]? <;> rfl
    · intro p hp
      obtain ⟨i, hi⟩ := List.getElem?_of_mem hp
      obtain ⟨ht, hf⟩ := hget i p hi
      rw [hf]; exact hr i p.2 ht
    · intro u hu
      obtain ⟨j, hj⟩ := List.getElem?_of_mem hu
      exact (hcell j u hj).2

set_option maxRecDepth 100000 in
set_option maxHeartbeats 1000000 in
theorem Grow_zero (w : World) : Calls Tryz.prog 58 #[.slice none 0 0, .int .i64 0] w fun e w' => e = .returned (.slice none 0 0) ∧ w = w' := by
  go_enter Tryz.func58, Tryz.ntmps58
  go_wp2
  go_ret
  exact ⟨rfl, rfl⟩

theorem info29' : (Tryz.prog.info? 42).map (fun i => (i.zero, i.size, i.bytes)) = some (some (.agg #[.slice none 0 0, .int .i64 0]), 2, 32) := by kernel_rfl

set_option maxRecDepth 100000 in
set_option maxHeartbeats 1000000 in
theorem Grow_some (n : Nat) (h0 : 0 < n) (hn : n ≤ 1000000) (w : World) : Calls Tryz.prog 58 #[.slice none 0 0, .int .i64 (n : Int)] w fun e w' => ∃ v, e = .returned v ∧ w'.ownsRow w.heap.size 42 2 v 0 [] ∧ Below w.heap.size w w' := by
  obtain ⟨i0, hi, hz0, hz1, hz2⟩ := info_parts info29'
  have hrz : ∀ ty, _ := fun ty => Lib.run_append_nil_zeros (P := Tryz.prog) w 40 3 ty 42 i0 _ .i64 .i64 Tryz.underlying40 Tryz.underlying3 hi hz0 n h0 (by rw [hz1]; omega) (by omega) (by rw [hz2]; omega)
  have hGn : n ≤ grownCap w n 0 42 := grownCap_ge w _ _ _
  have hGm := grownCap_le_maxLen w n 0 42 (by unfold maxLen; omega)
  generalize grownCap w n 0 42 = G at *
  have hcs : (Builtin.zeroCells (Value.agg #[.slice none 0 0, .int .i64 0]).cells n ++ Builtin.zeroCells (Value.agg #[.slice none 0 0, .int .i64 0]).cells (G - n)).size = G * 2 := by
    have hz : (Value.agg #[.slice none 0 0, .int .i64 0]).cells.size = 2 := rfl
    rw [Array.size_append, size_zeroCells, size_zeroCells, hz]
    omega
  generalize Builtin.zeroCells (Value.agg #[.slice none 0 0, .int .i64 0]).cells n ++ Builtin.zeroCells (Value.agg #[.slice none 0 0, .int .i64 0]).cells (G - n) = cs at *
  have hG63 : G ≤ 9223372036854775807 := by unfold maxLen at hGm; omega
  have z0 : ¬ ((n : Int) < 0) := by omega
  have z1 : (0 : Int) < (n : Int) := by omega
  go_enter Tryz.func58, Tryz.ntmps58
  go_wp2_with (at_builtin; refine Lib.wpList_append_run _ rfl _ _ _ _ rfl _ _ rfl rfl _ _ (hrz _) ?_)
  go_ret
  exact ⟨_, rfl, World.ownsRow_made w cs G (Nat.le_refl _) hGm hcs, ((Below.refl _ _).alloc (Nat.le_refl _) _).drew⟩

theorem Grow_calls (n : Nat) (hn : n ≤ 1000000) (w : World) : Calls Tryz.prog 58 #[.slice none 0 0, .int .i64 (n : Int)] w fun e w' => ∃ v, e = .returned v ∧ w'.ownsRow w.heap.size 42 2 v 0 [] ∧ Below w.heap.size w w' := by
  by_cases h0 : n = 0
  · subst h0
    refine (Grow_zero w).mono ?_
    rintro e w' ⟨rfl, rfl⟩
    exact ⟨_, rfl, World.ownsRow_nil _ _ _ _, Below.refl _ _⟩
  · exact Grow_some n (by omega) hn w

/-- All types of lists, in order. -/
def flat : List (Value × List Ty) → List Ty
  | [] => []
  | p :: r => p.2 ++ flat r
theorem flat_append (a b : List (Value × List Ty)) : flat (a ++ b) = flat a ++ flat b := by
  induction a with
  | nil => rfl
  | cons p a ih => simp [flat, ih]
theorem flat_take {ls : List (Value × List Ty)} {k : Nat} {p : Value × List Ty} (h : ls[k]? = some p) : flat (ls.take (k + 1)) = flat (ls.take k) ++ p.2 := by
  rw [List.take_add_one, h, flat_append]; simp [flat]
theorem flat_take_le (ls : List (Value × List Ty)) (k : Nat) : (flat (ls.take k)).length ≤ (flat ls).length := by
  conv => rhs; rw [← List.take_append_drop k ls, flat_append]
  simp

theorem row_below {w w' : World} {base size n : Nat} {e : TypeId} {v : Value} {xs : List Value} (h : w.ownsRow base e size v n xs) (hb : Below w.heap.size w w') : w'.ownsRow base e size v n xs := by
  obtain ⟨h1, h2⟩ := h
  refine ⟨h1, ?_⟩
  rcases h2 with h2 | ⟨g, cap, cur, e1, e2, e3, e4⟩
  · exact .inl h2
  · refine .inr ⟨g, cap, cur, e1, e2, ?_, e4⟩
    have hlt : g < w.heap.size := (Array.getElem?_eq_some_iff.1 e3).1
    exact (hb.block g hlt).trans e3

set_option maxRecDepth 100000 in
set_option maxHeartbeats 1600000 in
theorem Concat_calls (ok : Nat → Prop) (ls : List (Value × List Ty)) (G : Nat) (w : World) (hG : ∀ i p, ls[i]? = some p → w.cell? ⟨G, i, none⟩ = some p.1 ∧ Holds w ok p.2 p.1) (hm : ls.length ≤ 4) (htot : (flat ls).length ≤ 1000000) :
    Calls Tryz.prog 44 #[.slice (some ⟨G, 0, none⟩) ls.length ls.length] w fun e w' => ∃ v ps, e = .returned v ∧ w'.ownsRow w.heap.size 42 2 v ps.length (pcells ps) ∧ ps.map (·.2) = flat ls ∧ (∀ p ∈ ps, Holds w ok p.2.args p.1) ∧ Below w.heap.size w w' := by
  obtain ⟨i0, hi, hz0, hz1, hz2⟩ := info_parts info29'
  have HG : Hid _ := hG
  clear hG
  obtain ⟨N, hN⟩ : ∃ N, w.heap.size = N := ⟨_, rfl⟩
  obtain ⟨m, hml⟩ : ∃ m, ls.length = m := ⟨_, rfl⟩
  rw [hml] at hm
  have HM : Hid (ls.length = m) := hml
  rw [hml]
  clear hml
  obtain ⟨tot, hto⟩ : ∃ tot, (flat ls).length = tot := ⟨_, rfl⟩
  rw [hto] at htot
  have HT : Hid ((flat ls).length = tot) := hto
  clear hto
  go_enter Tryz.func44, Tryz.ntmps44
  go_wp2
  go_loop [3, 11] (fun s i => ∃ (k : Nat), k ≤ m ∧ i = .int .i64 k ∧ s = .int .i64 (((flat (ls.take k)).length : Nat) : Int))
    (fun _ i => m - (intOf i).toNat)
  case atStart => exact ⟨0, Nat.zero_le _, rfl, by simp [flat]⟩
  case round =>
    obtain ⟨k, hk, rfl, rfl⟩ := hrel
    have hfl := flat_take_le ls k
    rw [HT.out] at hfl
    by_cases hlt : k < m
    · obtain ⟨p, hp⟩ : ∃ p, ls[k]? = some p := ⟨_, List.getElem?_eq_getElem (by rw [HM.out]; exact hlt)⟩
      obtain ⟨c0, hp0⟩ := HG.out k p hp
      obtain ⟨pa, pc, hps, _⟩ := hp0.shape
      rw [hps] at c0
      have hS : Hid ((flat (ls.take (k + 1))).length = (flat (ls.take k)).length + p.2.length) := by show _ = _; rw [flat_take hp, List.length_append]
      have hle := flat_take_le ls (k + 1)
      rw [HT.out, hS.out] at hle
      have y1 : (0 : Int) ≤ (k : Int) := by omega
      have y2 : (k : Int) < (m : Int) := by omega
      clear hp hps hp0
      go_wp2
      go_round
      case rel => exact ⟨k + 1, by omega, by go_num, by rw [hS.out]; go_num⟩
      case measure => simp [intOf]; omega
    · obtain rfl : m = k := by omega
      have hfin : flat (ls.take m) = flat ls := by rw [← HM.out, List.take_length]
      rw [hfin, HT.out]
      clear hfin hfl
      go_wp2_with (go_at_call 58; refine (Grow_calls tot htot _).mono ?_; rintro e w1 ⟨v1, rfl, hr1, hb1⟩)
      rw [hN] at hr1 hb1
      go_loopw [6, 27] (fun s i wr => ∃ (k : Nat) (vk : Value) (ps : List (Value × Ty)), k ≤ m ∧ i = .int .i64 k ∧ s = vk ∧ Hid (ps.map (·.2) = flat (ls.take k)) ∧ wr.ownsRow N 42 2 vk ps.length (pcells ps) ∧ (∀ p ∈ ps, Holds w ok p.2.args p.1) ∧ Below N w wr)
        (fun _ i _ => m - (intOf i).toNat)
      case atStart => exact ⟨0, v1, [], Nat.zero_le _, rfl, rfl, by show _ = _; simp [flat], hr1, (fun p hp => by cases hp), hb1⟩
      case round =>
        obtain ⟨k, vk, ps, hk, rfl, rfl, HP, hrow, hkid, hbl⟩ := hrel
        have HK : Hid _ := hkid
        have hpl : ps.length = (flat (ls.take k)).length := by have := congrArg List.length HP.out; rwa [List.length_map] at this
        have hfl := flat_take_le ls k
        rw [HT.out, ← hpl] at hfl
        clear hpl hkid
        have hNw : N ≤ wr.heap.size := by have := hbl.size; omega
        by_cases hlt : k < m
        · obtain ⟨p, hp⟩ : ∃ p, ls[k]? = some p := ⟨_, List.getElem?_eq_getElem (by rw [HM.out]; exact hlt)⟩
          obtain ⟨c0, hp0⟩ := HG.out k p hp
          have hGN : G < N := by have h9 : G < w.heap.size := lt_of_cell c0; omega
          have q0 := (cat hbl hGN).trans c0
          obtain ⟨pa, pc, hps, _⟩ := hp0.shape
          have hp1 := hp0
          rw [hps] at q0 hp1
          have HS : Hid (flat (ls.take (k + 1)) = flat (ls.take k) ++ p.2) := flat_take hp
          have hle := flat_take_le ls (k + 1)
          rw [HT.out, HS.out, List.length_append] at hle
          have hpl : ps.length = (flat (ls.take k)).length := by have := congrArg List.length HP.out; rwa [List.length_map] at this
          rw [← hpl] at hle
          have y1 : (0 : Int) ≤ (k : Int) := by omega
          have y2 : (k : Int) < (m : Int) := by omega
          clear hp hps hp0 hpl c0
          cases pa with
          | none =>
            obtain ⟨e0, e1, e2⟩ := hp1.isnil
            rw [e0, e1] at q0
            have HP2 : Hid (ps.map (·.2) = flat (ls.take (k + 1))) := by show _ = _; rw [HS.out, e2, List.append_nil, HP.out]
            clear e0 e1 e2 hp1
            go_wp2_with (at_builtin; refine wpList_append_own_none rfl _ _ 40 rfl N 42 i0 2 Tryz.underlying40 hi _ ps.length (pcells ps) rfl hrow rfl ?_)
            go_roundw
            case rel => exact ⟨k + 1, _, ps, by omega, by go_num, rfl, HP2, hrow, HK.out, hbl⟩
            case measure => simp [intOf]; omega
          | some ad =>
            obtain ⟨qs, hq1, hq2, hq3, hq4⟩ : ∃ qs : List (Value × Ty), qs.map (·.2) = p.2 ∧ (∀ p ∈ qs, Holds w ok p.2.args p.1) ∧ (∀ j u, (pcells qs)[j]? = some u → w.cell? (ad.add j) = some u) ∧ ∀ u ∈ pcells qs, u.oneCell' = true := by
              cases hpe : p.2 with
              | nil => exact ⟨[], rfl, fun p hp => (by cases hp), fun j u h => by simp [pcells] at h, fun u h => by simp [pcells] at h⟩
              | cons t r =>
                obtain ⟨a', cap', e1, _, hat⟩ := hp1.shape
                obtain ⟨g, o, _, e2, _⟩ := hat 0 t (by rw [hpe]; rfl)
                cases e1
                cases e2
                obtain ⟨_, qs, h1, h2, h3, h4⟩ := hp1.row
                exact ⟨qs, by rw [← hpe]; exact h1, h2, fun j u hj => by have := h3 j u hj; rwa [show (⟨g, o, none⟩ : Addr).add j = ⟨g, o + j, none⟩ by simp [Addr.add]], h4⟩
            have hql : qs.length = p.2.length := by rw [← hq1, List.length_map]
            rw [← hql] at q0 hle
            have hq5 : ∀ j u, (pcells qs)[j]? = some u → wr.cell? (ad.add j) = some u := fun j u hj => by
              have h0 := hq3 j u hj
              exact (hbl.cell (p := ad.add j) (by have := lt_of_cell h0; omega)).trans h0
            have HP2 : Hid ((ps ++ qs).map (·.2) = flat (ls.take (k + 1))) := by show _ = _; rw [HS.out, List.map_append, HP.out, hq1]
            have HK2 : Hid (∀ p ∈ ps ++ qs, Holds w ok p.2.args p.1) := fun x hx => by
              rcases List.mem_append.1 hx with hx | hx
              · exact HK.out x hx
              · exact hq2 x hx
            clear hq1 hq2 hq3 hp1 hql
            go_wp2_with (at_builtin; refine wpList_append_own _ rfl _ _ 40 rfl N 42 i0 _ 2 32 Tryz.underlying40 hi hz0 hz1 hz2 rfl (by decide) _ ps.length (pcells ps) rfl hrow ad qs.length pc (pcells qs) rfl (pcells_length qs) hq5 hq4 (by unfold maxLen; omega) (by omega) hNw ?_; intro v2 w2 hown2 hgrow2 _)
            have hb2 : Below N w w2 := hbl.grown hgrow2 (by omega) (fun j hj => (hrow.lt j hj).1)
            clear hgrow2
            go_wp2
            go_roundw
            case rel => exact ⟨k + 1, v2, ps ++ qs, by omega, by go_num, rfl, HP2, by rw [List.length_append, pcells_append]; exact hown2, HK2.out, hb2⟩
            case measure => simp [intOf]; omega
        · obtain rfl : m = k := by omega
          go_wp2
          go_ret
          exact ⟨_, ps, rfl, by rw [hN]; exact hrow, by rw [HP.out, ← HM.out, List.take_length], HK.out, by rw [hN]; exact hbl⟩

end Go.Proofs.YtdihplmlbfggjaaGreatDoor

/-
  The contracts of kind.fresh and kind.freshAll: types told in memory of their own.
-/
namespace Go.Proofs.YtdihplmlbfggjaaGreatDoor
open Go Go.RowKit

theorem row_set {w : World} {base size n g cap : Nat} {e : TypeId} {xs : List Value} (h : w.ownsRow base e size (.slice (some ⟨g, 0, none⟩) n cap) n xs) (i : Nat) (u : Value) :
    (w.setCell ⟨g, i, none⟩ u).ownsRow base e size (.slice (some ⟨g, 0, none⟩) n cap) n (xs.set i u) := by
  obtain ⟨h1, h2⟩ := h
  refine ⟨by rw [List.length_set]; exact h1, ?_⟩
  rcases h2 with ⟨h2, _⟩ | ⟨g', cap', cur, e1, e2, e3, e4, e5, e6, e7⟩
  · cases h2
  · cases e1
    refine .inr ⟨g, cap, cur.setIfInBounds i u, rfl, e2, Blk.set (show Blk w g e cur from e3) i u, e4, e5, by simpa using e6, ?_⟩
    rw [Array.toList_setIfInBounds, List.take_set, e7]
theorem row_frozen {w : World} {base size n g cap : Nat} {e : TypeId} {xs : List Value} (h : w.ownsRow base e size (.slice (some ⟨g, 0, none⟩) n cap) n xs) (i : Nat) : w.frozen? ⟨g, i, none⟩ = false := by
  rcases h.2 with ⟨h2, _⟩ | ⟨g', cap', cur, e1, e2, e3, _⟩
  · cases h2
  · cases e1
    exact Blk.frozen (show Blk w g e cur from e3) i
theorem pcells_set (rs : List (Value × Ty)) (p : Value × Ty) (r : List (Value × Ty)) (a : Value) (t : Ty) :
    ((pcells (rs ++ p :: r)).set (rs.length * 2) a).set (rs.length * 2 + 1) (.int .i64 t.base) = pcells (rs ++ (a, t) :: r) := by
  rw [pcells_append, pcells_append]
  have hl := pcells_length rs
  rw [List.set_append_right _ _ (by omega), List.set_append_right _ _ (by omega)]
  rw [show rs.length * 2 - (pcells rs).length = 0 by omega, show rs.length * 2 + 1 - (pcells rs).length = 1 by omega]
  rfl

/-- fresh's own word of one type -/
def FreshAt (t : Ty) : Prop := ∀ (ok : Nat → Prop) (sl : Value) (w : World), Holds w ok t.args sl →
    Calls Tryz.prog 45 #[tv sl t.base] w fun e w' => ∃ v, e = .returned (tv v t.base) ∧ Holds w' (fun b => w.heap.size ≤ b) t.args v ∧ Below w.heap.size w w'

theorem holds_of_row {w : World} {M : Nat} {e : TypeId} {v : Value} {ps : List (Value × Ty)} {ok : Nat → Prop} (h' : w.ownsRow M e 2 v ps.length (pcells ps)) (hk : ∀ p ∈ ps, Holds w ok p.2.args p.1) (hM : ∀ b, M ≤ b → ok b) : Holds w ok (ps.map (·.2)) v := by
  obtain ⟨h1, h2⟩ := h'
  rcases h2 with ⟨rfl, h2⟩ | ⟨g, cap, cur, rfl, e2, e3, e4, e5, e6⟩
  · have : ps = [] := List.eq_nil_of_length_eq_zero h2
    subst this
    exact Holds.nil _ _ _ _ (fun _ => rfl)
  · have hc := World.ownsRow.cellAt (show w.ownsRow M e 2 (.slice (some ⟨g, 0, none⟩) ps.length cap) ps.length (pcells ps) from ⟨h1, .inr ⟨g, cap, cur, rfl, e2, e3, e4, e5, e6⟩⟩)
    have hq : ∀ (i : Nat) (u : Ty), (ps.map (·.2))[i]? = some u → ∃ p : Value × Ty, ps[i]? = some p ∧ p.2 = u := by
      intro i u hi
      rw [List.getElem?_map] at hi
      exact Option.map_eq_some_iff.1 hi
    have := Holds.mk (w := w) (ok := ok) (ps.map (·.2)) (some ⟨g, 0, none⟩) cap (fun i => ((ps[i]?).map (·.1)).getD undef) (by simpa using e4) (fun h => by cases h)
      (fun i u hi => by
        obtain ⟨p, hp, rfl⟩ := hq i u hi
        obtain ⟨c0, c1⟩ := pcells_get ps i p hp
        have hil := (List.getElem?_eq_some_iff.1 hp).1
        refine ⟨g, 0, rfl, hM g e2, ?_, ?_⟩
        · rw [Nat.zero_add, hc _ (by omega), c0, hp]; rfl
        · rw [Nat.zero_add, hc _ (by omega), c1])
      (fun i u hi => by
        obtain ⟨p, hp, rfl⟩ := hq i u hi
        rw [hp]
        exact hk p (List.mem_of_getElem? hp))
    rwa [List.length_map] at this

theorem row_shape {w : World} {base size n : Nat} {e : TypeId} {v : Value} {xs : List Value} (h : w.ownsRow base e size v n xs) : ∃ va vc, v = .slice va n vc := by
  rcases h.2 with ⟨h1, h2⟩ | ⟨g, cap, cur, h1, _⟩
  · exact ⟨none, 0, by rw [h1, h2]⟩
  · exact ⟨_, cap, h1⟩
theorem holds_set2 {w : World} {ok ok' : Nat → Prop} {ts : List Ty} {v : Value} {g : Nat} (h : Holds w ok ts v) (hg : ∀ b, b < w.heap.size → ok b → b ≠ g ∧ ok' b) (i j : Nat) (x y : Value) : Holds ((w.setCell ⟨g, i, none⟩ x).setCell ⟨g, j, none⟩ y) ok' ts v :=
  h.keep fun b hb ho => ⟨(Below.heap_setCell _ ⟨g, j, none⟩ y b (hg b hb ho).1).trans (Below.heap_setCell w ⟨g, i, none⟩ x b (hg b hb ho).1), (hg b hb ho).2⟩

set_option maxRecDepth 100000 in
set_option maxHeartbeats 1600000 in
theorem freshAll_calls (ok : Nat → Prop) (ls : List (Value × List Ty)) (G : Nat) (w : World) (hG : ∀ i p, ls[i]? = some p → w.cell? ⟨G, i, none⟩ = some p.1 ∧ Holds w ok p.2 p.1) (hm : ls.length ≤ 4) (htot : (flat ls).length ≤ 1000000) (IH : ∀ t ∈ flat ls, FreshAt t) :
    Calls Tryz.prog 35 #[.slice (some ⟨G, 0, none⟩) ls.length ls.length] w fun e w' => ∃ v, e = .returned v ∧ Holds w' (fun b => w.heap.size ≤ b) (flat ls) v ∧ Below w.heap.size w w' := by
  have HI : Hid _ := IH
  clear IH
  obtain ⟨N, hN⟩ : ∃ N, w.heap.size = N := ⟨_, rfl⟩
  rw [hN]
  go_enter Tryz.func35, Tryz.ntmps35
  go_wp2_with (go_at_call 44; refine (Concat_calls ok ls G _ hG hm htot).mono ?_; rintro e w1 ⟨v1, qs, rfl, hrow, hqs, hkid, hb1⟩; obtain ⟨va, vc, rfl⟩ := row_shape hrow)
  rw [hN] at hrow hb1
  have HQ : Hid (qs.map (·.2) = flat ls) := hqs
  have hql : qs.length ≤ 1000000 := by rw [← hqs, List.length_map] at htot; exact htot
  have HK : Hid _ := hkid
  clear hqs hkid hG htot
  go_loopw [10] (fun i wr => ∃ (k : Nat) (rs : List (Value × Ty)), k ≤ qs.length ∧ i = .int .i64 k ∧ Hid (rs.length = k) ∧ Hid (rs.map (·.2) = (qs.take k).map (·.2)) ∧ wr.ownsRow N 42 2 (.slice va qs.length vc) qs.length (pcells (rs ++ qs.drop k)) ∧ (∀ p ∈ rs, Holds wr (fun b => N ≤ b ∧ (Value.slice va qs.length vc).ownBlock ≠ some b) p.2.args p.1) ∧ Below N w wr)
    (fun i _ => qs.length - (intOf i).toNat)
  case atStart => exact ⟨0, [], Nat.zero_le _, rfl, rfl, rfl, by simpa using hrow, (fun p hp => by cases hp), hb1⟩
  case round =>
    clear hrow hb1
    obtain ⟨k, rs, hk, rfl, HR, HS, hrow, hkid, hbl⟩ := hrel
    have hNw : N ≤ wr.heap.size := by have := hbl.size; omega
    by_cases hlt : k < qs.length
    · obtain ⟨p, hp⟩ : ∃ p, qs[k]? = some p := ⟨_, List.getElem?_eq_getElem hlt⟩
      obtain ⟨g, vc', e1, hNg, hgl⟩ := hrow.form (by omega)
      cases e1
      have hdr : qs.drop k = p :: qs.drop (k + 1) := by
        obtain ⟨hl, he⟩ := List.getElem?_eq_some_iff.1 hp
        rw [List.drop_eq_getElem_cons hl, he]
      rw [hdr] at hrow
      have hc := World.ownsRow.cellAt hrow
      have hg0 : (pcells (rs ++ p :: qs.drop (k + 1)))[k * 2]? = some p.1 ∧ (pcells (rs ++ p :: qs.drop (k + 1)))[k * 2 + 1]? = some (.int .i64 p.2.base) := by
        apply pcells_get
        rw [← HR.out, List.getElem?_append_right (Nat.le_refl _)]
        simp
      have c0 : wr.cell? ⟨g, k * 2, none⟩ = some p.1 := (hc _ (by omega)).trans hg0.1
      have c1 : wr.cell? ⟨g, k * 2 + 1, none⟩ = some (.int .i64 p.2.base) := (hc _ (by omega)).trans hg0.2
      have hpm := List.mem_of_getElem? hp
      have hpH : Holds wr ok p.2.args p.1 := (HK.out p hpm).bel (by rw [hN]; exact hbl)
      have hfr := HI.out p.2 (by rw [← HQ.out]; exact List.mem_map_of_mem hpm)
      obtain ⟨sa, sc, hps, _⟩ := hpH.shape
      have y1 : (0 : Int) ≤ (k : Int) := by omega
      have y2 : (k : Int) < (qs.length : Int) := by omega
      have HS2 : Hid (rs.map (·.2) ++ [p.2] = (qs.take (k + 1)).map (·.2)) := by show _ = _; rw [HS.out, List.take_add_one, hp]; simp
      have hpc := hfr ok p.1 (wr.alloc (.cells #[p.1, .int .i64 p.2.base] 42)) (hpH.alloc _)
      have hrow1 := hrow.alloc (.cells #[p.1, .int .i64 p.2.base] 42)
      have hb1 : Below wr.heap.size wr (wr.alloc (.cells #[p.1, .int .i64 p.2.base] 42)) := (Below.refl _ _).alloc (Nat.le_refl _) _
      rw [hps] at c0 hpc hrow1 hb1
      clear hp hdr hg0 hc hfr HS hpH
      have d0 := (cat hb1 hgl).trans c0
      have d1 := (cat hb1 hgl).trans c1
      have hgl1 := Nat.lt_of_lt_of_le hgl hb1.size
      go_wp2_with (go_at_call 45; refine hpc.mono ?_; rintro e w2 ⟨v2, rfl, hv2, hb2⟩; obtain ⟨ta, tc, rfl, _⟩ := hv2.shape; have e0 := (cat hb2 hgl1).trans d0; have e1 := (cat hb2 hgl1).trans d1; have hrow2 := row_below hrow1 hb2; have f0 := row_frozen hrow2 (k * 2); have f1 := row_frozen hrow2 (k * 2 + 1))
      generalize p.2.args.length = un at *
      have hB2 : Below N w w2 := (hbl.alloc hNw _).trans (hb2.mono (by simp; omega))
      have hB3 : Below N w ((w2.setCell ⟨g, k * 2, none⟩ (.slice ta un tc)).setCell ⟨g, k * 2 + 1, none⟩ (.int .i64 p.2.base)) := bset (bset hB2 hNg _) hNg _
      have hrow3 := row_set (row_set hrow2 (k * 2) (.slice ta un tc)) (k * 2 + 1) (.int .i64 p.2.base)
      rw [show (pcells (rs ++ p :: qs.drop (k + 1))).set (k * 2) (.slice ta un tc) = (pcells (rs ++ p :: qs.drop (k + 1))).set (rs.length * 2) (.slice ta un tc) by rw [HR.out]] at hrow3
      have hk2 : Hid (((pcells (rs ++ p :: qs.drop (k + 1))).set (rs.length * 2) (.slice ta un tc)).set (k * 2 + 1) (.int .i64 p.2.base) = pcells ((rs ++ [(.slice ta un tc, p.2)]) ++ qs.drop (k + 1))) := by
        show _ = _
        rw [← HR.out, pcells_set, List.append_assoc]
        rfl
      rw [hk2.out] at hrow3
      have hkid2 : ∀ q ∈ rs ++ [(.slice ta un tc, p.2)], Holds ((w2.setCell ⟨g, k * 2, none⟩ (.slice ta un tc)).setCell ⟨g, k * 2 + 1, none⟩ (.int .i64 p.2.base)) (fun b => N ≤ b ∧ (Value.slice (some ⟨g, 0, none⟩) qs.length vc).ownBlock ≠ some b) q.2.args q.1 := by
        intro q hq
        rcases List.mem_append.1 hq with hq | hq
        · exact holds_set2 (((hkid q hq).alloc _).bel hb2) (fun b _ ho => ⟨fun e => ho.2 (by rw [e]; rfl), ho⟩) _ _ _ _
        · rw [List.mem_singleton.1 hq]
          refine holds_set2 hv2 (fun b _ ho => ?_) _ _ _ _
          have ho' : wr.heap.size + 1 ≤ b := by simpa using ho
          have hbg : b ≠ g := by omega
          exact ⟨hbg, by omega, fun e => hbg (by cases e; rfl)⟩
      clear hrow hrow1 hrow2 hkid hbl hb2 hB2 hv2 hb1 hpc c0 c1 d0 d1 e0 e1 f0 f1 hk2
      generalize (w2.setCell ⟨g, k * 2, none⟩ (.slice ta un tc)).setCell ⟨g, k * 2 + 1, none⟩ (.int .i64 p.2.base) = W3 at *
      go_roundw
      case rel => exact ⟨k + 1, rs ++ [(.slice ta un tc, p.2)], by omega, by go_num, by show _ = _; rw [List.length_append, HR.out]; rfl, by show _ = _; rw [List.map_append]; exact HS2.out, hrow3, hkid2, hB3⟩
      case measure => simp [intOf]; omega
    · obtain rfl : k = qs.length := by omega
      go_wp2
      go_ret
      refine ⟨_, rfl, ?_, hbl⟩
      rw [List.drop_length, List.append_nil] at hrow
      rw [List.take_length, HQ.out] at HS
      rw [← HS.out]
      refine holds_of_row (M := N) (e := 42) (by rw [HR.out]; exact hrow) (fun p hp => (hkid p hp).mono fun b _ h => h.1) (fun b h => h)

theorem freshAll_one (ok : Nat → Prop) (sl : Value) (ts : List Ty) (G : Nat) (w : World) (hc : w.cell? ⟨G, 0, none⟩ = some sl) (hh : Holds w ok ts sl) (htot : ts.length ≤ 1000000) (IH : ∀ t ∈ ts, FreshAt t) :
    Calls Tryz.prog 35 #[.slice (some ⟨G, 0, none⟩) 1 1] w fun e w' => ∃ v, e = .returned v ∧ Holds w' (fun b => w.heap.size ≤ b) ts v ∧ Below w.heap.size w w' := by
  have := freshAll_calls ok [(sl, ts)] G w (fun i p hi => by
    match i with
    | 0 => simp at hi; subst hi; exact ⟨hc, hh⟩
    | i + 1 => simp at hi) (by simp) (by simpa [flat] using htot) (by simpa [flat] using IH)
  simpa [flat] using this
theorem freshAll_two (ok : Nat → Prop) (sl sl' : Value) (ts us : List Ty) (G : Nat) (w : World) (hc : w.cell? ⟨G, 0, none⟩ = some sl) (hc' : w.cell? ⟨G, 1, none⟩ = some sl') (hh : Holds w ok ts sl) (hh' : Holds w ok us sl') (htot : ts.length + us.length ≤ 1000000) (IH : ∀ t, t ∈ ts ∨ t ∈ us → FreshAt t) :
    Calls Tryz.prog 35 #[.slice (some ⟨G, 0, none⟩) 2 2] w fun e w' => ∃ v, e = .returned v ∧ Holds w' (fun b => w.heap.size ≤ b) (ts ++ us) v ∧ Below w.heap.size w w' := by
  have := freshAll_calls ok [(sl, ts), (sl', us)] G w (fun i p hi => by
    match i with
    | 0 => simp at hi; subst hi; exact ⟨hc, hh⟩
    | 1 => simp at hi; subst hi; exact ⟨hc', hh'⟩
    | i + 2 => simp at hi) (by simp) (by simpa [flat] using htot) (fun t ht => IH t (by simpa [flat] using ht))
  simpa [flat] using this

set_option maxRecDepth 100000 in
set_option maxHeartbeats 1600000 in
theorem fresh_calls (t : Ty) : t.size ≤ 1000000 → FreshAt t := by
  induction t using Ty.ind with
  | h t ih =>
  intro hsz ok sl w hh
  have hs2 := t.size_eq
  have hl := sizeL_length t.args
  obtain ⟨ts, hts⟩ : ∃ ts, t.args = ts := ⟨_, rfl⟩
  rw [hts] at hh ih hs2 hl ⊢
  obtain ⟨a, cap, rfl, _⟩ := hh.shape
  obtain ⟨N, hN⟩ : ∃ N, w.heap.size = N := ⟨_, rfl⟩
  rw [hN]
  have hIH : Hid (∀ u ∈ ts, FreshAt u) := fun u hu => ih u hu (by have := size_mem hu; omega)
  clear ih
  go_enter Tryz.func45, Tryz.ntmps45
  go_wp2_with fail
  generalize hw0 : (w.alloc (.cells #[.slice a ts.length cap, .int .i64 t.base] 42)).alloc (.cells #[.slice none 0 0, .int .i64 0] 42) = w0
  have b0 : Blk w0 N 42 #[.slice a ts.length cap, .int .i64 t.base] := by rw [← hw0]; exact (Blk.new' w N 42 _ hN).alloc _
  have b1 : Blk w0 (N + 1) 42 #[.slice none 0 0, .int .i64 0] := by rw [← hw0]; exact Blk.new' _ (N + 1) 42 _ (by simp [hN])
  have hz : w0.heap.size = N + 1 + 1 := by rw [← hw0]; simp [hN]
  have bl0 : Below N w w0 := by rw [← hw0]; exact ((Below.refl N w).alloc (by omega) _).alloc (by simp; omega) _
  have hh0 : Holds w0 ok ts (.slice a ts.length cap) := hh.bel (by rw [hN]; exact bl0)
  clear hw0
  have c0 := b0.cell 0
  have c1 := b0.cell 1
  have s0 := b1.cell 0
  have s1 := b1.cell 1
  have f0 := b1.frozen 0
  have f1 := b1.frozen 1
  have hcall : Hid (∀ d, d = w0.drew → Calls Tryz.prog 35 #[.slice (some ⟨N + 1 + 1, 0, none⟩) 1 1] (d.alloc (.cells #[.slice a ts.length cap] 40)) fun e w' => ∃ va vc, e = .returned (.slice va ts.length vc) ∧ Holds w' (fun b => N + 1 + 1 ≤ b) ts (.slice va ts.length vc) ∧ Below (N + 1 + 1) w0 w') := by
    rintro d rfl
    have hz' : w0.drew.heap.size = N + 1 + 1 := hz
    have hb := Blk.new' w0.drew (N + 1 + 1) 40 #[.slice a ts.length cap] hz'
    refine (freshAll_one ok (.slice a ts.length cap) ts (N + 1 + 1) _ (hb.cell 0) (hh0.drew.alloc _) (by omega) hIH.out).mono ?_
    rintro e w' ⟨v, rfl, hv, hb'⟩
    obtain ⟨va, vc, rfl, _⟩ := hv.shape
    refine ⟨va, vc, rfl, hv.mono (fun b _ h => by simp at h; omega), ?_⟩
    exact (((Below.refl _ w0).drew).alloc (by show N + 1 + 1 ≤ w0.heap.size; omega) _).trans (hb'.mono (by simp; omega))
  go_region_law (go_simp; go_at_call 35; refine (hcall.out _ rfl).mono ?_; rintro e w2 ⟨va, vc, rfl, hv, hb2⟩; have e1 := (cat hb2 (show N < N + 1 + 1 by omega)).trans c1; have d0 := (cat hb2 (show N + 1 < N + 1 + 1 by omega)).trans s0; have d1 := (cat hb2 (show N + 1 < N + 1 + 1 by omega)).trans s1; have hB2 := b1.below hb2 (by omega); have g0 := hB2.frozen 0; have g1 := hB2.frozen 1)
  all_goals
    have c9 := (hB2.set 0 (.slice va ts.length vc)).set 1 (.int .i64 t.base)
    have hH9 : Holds ((w2.setCell ⟨N + 1, 0, none⟩ (.slice va ts.length vc)).setCell ⟨N + 1, 1, none⟩ (.int .i64 t.base)) (fun b => N ≤ b) ts (.slice va ts.length vc) := holds_set2 hv (fun b _ ho => ⟨by omega, by omega⟩) _ _ _ _
    have hB9 : Below N w ((w2.setCell ⟨N + 1, 0, none⟩ (.slice va ts.length vc)).setCell ⟨N + 1, 1, none⟩ (.int .i64 t.base)) := bset (bset (bl0.trans (hb2.mono (by omega))) (by omega) _) (by omega) _
    clear hv hb2 e1 d0 d1 hB2 g0 g1
    generalize (w2.setCell ⟨N + 1, 0, none⟩ (.slice va ts.length vc)).setCell ⟨N + 1, 1, none⟩ (.int .i64 t.base) = W5 at *
    go_wp2
    have d0 : W5.cell? ⟨N + 1, 0, none⟩ = some (.slice va ts.length vc) := c9.cell 0
    have d1 : W5.cell? ⟨N + 1, 1, none⟩ = some (.int .i64 t.base) := c9.cell 1
    exact bodyPost_ret (v := tv (.slice va ts.length vc) t.base) (by simp [results, Tryz.results45, go_sem, d0, d1]) rfl ⟨_, rfl, hH9, hB9⟩

end Go.Proofs.YtdihplmlbfggjaaGreatDoor

/-
  The contracts of kind.Of, kind.Arrow and kind.Rest.
-/
namespace Go.Proofs.YtdihplmlbfggjaaGreatDoor
open Go Go.RowKit

theorem fresh_all {ts : List Ty} (h : sizeL ts ≤ 1000000) : ∀ t ∈ ts, FreshAt t := fun t ht => fresh_calls t (by have := size_mem ht; omega)

set_option maxRecDepth 100000 in
set_option maxHeartbeats 1600000 in
theorem kOf_calls (b : Int) (ts : List Ty) (ok : Nat → Prop) (sl : Value) (w : World) (hh : Holds w ok ts sl) (hsz : sizeL ts ≤ 1000000) :
    Calls Tryz.prog 23 #[.int .i64 b, sl] w fun e w' => ∃ v, e = .returned (tv v b) ∧ Holds w' (fun b => w.heap.size ≤ b) ts v ∧ Below w.heap.size w w' := by
  have hl := sizeL_length ts
  obtain ⟨a, cap, rfl, _⟩ := hh.shape
  obtain ⟨N, hN⟩ : ∃ N, w.heap.size = N := ⟨_, rfl⟩
  rw [hN]
  have hIH : Hid (∀ u ∈ ts, FreshAt u) := fresh_all hsz
  obtain ⟨W1, hW1⟩ : ∃ W1, (w.alloc (.cells #[.slice none 0 0, .int .i64 0] 42)).alloc (.cells #[.slice a ts.length cap] 40) = W1 := ⟨_, rfl⟩
  have b1 : Blk W1 N 42 #[.slice none 0 0, .int .i64 0] := by rw [← hW1]; exact (Blk.new' _ N 42 _ hN).alloc _
  have b2 : Blk W1 (N + 1) 40 #[.slice a ts.length cap] := by rw [← hW1]; exact Blk.new' _ (N + 1) 40 _ (by simp [hN])
  have hz : W1.heap.size = N + 1 + 1 := by rw [← hW1]; simp [hN]
  have bl0 : Below N w W1 := by rw [← hW1]; exact ((Below.refl N w).alloc (by omega) _).alloc (by simp; omega) _
  have hcall := freshAll_one ok (.slice a ts.length cap) ts (N + 1) W1 (b2.cell 0) (hh.bel (by rw [hN]; exact bl0)) (by omega) hIH.out
  rw [hz] at hcall
  go_enter Tryz.func23, Tryz.ntmps23
  go_wp2_with (go_at_call 35; refine hcall.mono ?_; rintro e w2 ⟨v, rfl, hv, hb2⟩; obtain ⟨va, vc, rfl, _⟩ := hv.shape; have hB2 := b1.below hb2 (by omega); have d0 := hB2.cell 0; have d1 := hB2.cell 1; have g0 := hB2.frozen 0; have g1 := hB2.frozen 1)
  have c9 := (hB2.set 0 (.slice va ts.length vc)).set 1 (.int .i64 b)
  have hH9 : Holds ((w2.setCell ⟨N, 0, none⟩ (.slice va ts.length vc)).setCell ⟨N, 1, none⟩ (.int .i64 b)) (fun b => N ≤ b) ts (.slice va ts.length vc) := holds_set2 hv (fun b _ ho => ⟨by omega, by omega⟩) _ _ _ _
  have hB9 : Below N w ((w2.setCell ⟨N, 0, none⟩ (.slice va ts.length vc)).setCell ⟨N, 1, none⟩ (.int .i64 b)) := bset (bset (bl0.trans (hb2.mono (by omega))) (by omega) _) (by omega) _
  clear hv hb2 d0 d1 hB2 g0 g1
  generalize (w2.setCell ⟨N, 0, none⟩ (.slice va ts.length vc)).setCell ⟨N, 1, none⟩ (.int .i64 b) = W5 at *
  have d0 : W5.cell? ⟨N, 0, none⟩ = some (.slice va ts.length vc) := c9.cell 0
  have d1 : W5.cell? ⟨N, 1, none⟩ = some (.int .i64 b) := c9.cell 1
  exact bodyPost_ret (v := tv (.slice va ts.length vc) b) (by simp [results, Tryz.results23, go_sem, d0, d1]) rfl ⟨_, rfl, hH9, hB9⟩

end Go.Proofs.YtdihplmlbfggjaaGreatDoor

