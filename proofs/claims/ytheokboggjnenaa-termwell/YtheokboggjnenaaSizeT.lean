/-
  The contracts of the document's Size and Depth of terms, and of the law's Few.
-/
import Derived.Test.YtheokboggjnenaaFewT
namespace Go.Proofs.Ytheokboggjnenaa
open Go Go.RowKit

theorem sizeT_take {ts : List Tm} {k : Nat} {t : Tm} (h : ts[k]? = some t) : sizeT (ts.take (k + 1)) = sizeT (ts.take k) + t.size := by
  rw [List.take_add_one, h, sizeT_append]; simp [sizeT]
theorem sizeT_take_le (ts : List Tm) (k : Nat) : sizeT (ts.take k) ≤ sizeT ts := by
  conv => rhs; rw [← List.take_append_drop k ts, sizeT_append]
  omega
theorem depthT_take {ts : List Tm} {k : Nat} {t : Tm} (h : ts[k]? = some t) : depthT (ts.take (k + 1)) = max (depthT (ts.take k)) t.depth := by
  rw [List.take_add_one, h, depthT_append]; simp [depthT]
theorem depthT_take_le (ts : List Tm) (k : Nat) : depthT (ts.take k) ≤ depthT ts := by
  conv => rhs; rw [← List.take_append_drop k ts, depthT_append]
  omega

set_option maxRecDepth 100000 in
set_option maxHeartbeats 800000 in
theorem refSizeT_calls (t : Tm) : ∀ (ok : Nat → Prop) (sb sl : Value) (w : World), Holds w ok t.binds sb → HoldsT w ok t.args sl → t.size ≤ 1000000 →
    Calls Try.prog 15 #[tmv sb t.kind t.idx sl] w fun e w' => e = .returned (.int .i64 (t.size : Int)) ∧ Below w.heap.size w w' := by
  induction t using Tm.ind with
  | h t ih =>
  intro ok sb sl w hb ha hsz
  obtain ⟨ts, hts⟩ : ∃ ts, t.args = ts := ⟨_, rfl⟩
  have hsz2 := t.size_eq
  rw [hts] at ha ih hsz2
  obtain ⟨x1, x2, rfl, _⟩ := hb.shape
  generalize t.binds.length = bn at *
  obtain ⟨a, cap, rfl, hcap, hat⟩ := ha.shape
  have HA : Hid _ := hat
  clear hat ha hb
  have hln := sizeT_length ts
  obtain ⟨B, hB⟩ : ∃ B, w.heap.size = B := ⟨_, rfl⟩
  go_enter Try.func15, Try.ntmps15
  go_wp2
  generalize hw0 : w.alloc (.cells #[.slice x1 bn x2, .int .i64 t.kind, .int .i64 t.idx, .slice a ts.length cap] 27) = w0
  have b0 : Blk w0 B 27 #[.slice x1 bn x2, .int .i64 t.kind, .int .i64 t.idx, .slice a ts.length cap] := by rw [← hw0]; exact Blk.new' w B 27 _ hB
  have bl0 : Below B w w0 := by rw [← hw0]; exact (Below.refl B w).alloc (by omega) _
  clear hw0
  go_loopw [3, 4] (fun n i wr => ∃ k : Nat, k ≤ ts.length ∧ i = .int .i64 k ∧ n = .int .i64 ((1 + sizeT (ts.take k) : Nat) : Int) ∧ Blk wr B 27 #[.slice x1 bn x2, .int .i64 t.kind, .int .i64 t.idx, .slice a ts.length cap] ∧ Below B w wr)
    (fun _ i _ => ts.length - (intOf i).toNat)
  case atStart => exact ⟨0, Nat.zero_le _, rfl, by simp [sizeT], b0, bl0⟩
  case round =>
    clear b0 bl0
    obtain ⟨k, hk, rfl, rfl, hb, hbl⟩ := hrel
    have r0 := hb.cell 3
    have hle := sizeT_take_le ts k
    by_cases hlt : k < ts.length
    · obtain ⟨u, hu⟩ : ∃ u, ts[k]? = some u := ⟨_, List.getElem?_eq_getElem hlt⟩
      obtain ⟨g, o, s, r, rfl, _, hg, a0, a1, a2, a3, hs, hr⟩ := HA.out k u hu
      have q0 := (cat hbl (by omega)).trans a0
      have q1 := (cat hbl (by omega)).trans a1
      have q2 := (cat hbl (by omega)).trans a2
      have q3 := (cat hbl (by omega)).trans a3
      have hm := List.mem_of_getElem? hu
      have hus := tsize_mem hm
      have hS : Hid (sizeT (ts.take (k + 1)) = sizeT (ts.take k) + u.size) := sizeT_take hu
      have y1 : (0 : Int) ≤ (k : Int) := by omega
      have y2 : (k : Int) < (ts.length : Int) := by omega
      have hs2 := hs.bel (hB ▸ hbl)
      have hr2 := hr.bel (hB ▸ hbl)
      clear a0 a1 a2 a3 hu
      go_wp2_with (go_at_call 15; refine (ih u hm ok s r _ hs2 hr2 (by omega)).mono ?_; rintro e w1 ⟨rfl, hb1⟩)
      go_roundw
      case rel => exact ⟨k + 1, by omega, by go_num, by rw [hS.out]; go_num, hb.below hb1 hb.lt, hbl.trans (hb1.mono (by have := hbl.size; omega))⟩
      case measure => simp [intOf]; omega
    · obtain rfl : k = ts.length := by omega
      go_wp2
      go_ret
      exact ⟨ret_int (by rw [List.take_length, hsz2]), hB ▸ hbl⟩

set_option maxRecDepth 100000 in
set_option maxHeartbeats 800000 in
theorem refDepthT_calls (t : Tm) : ∀ (ok : Nat → Prop) (sb sl : Value) (w : World), Holds w ok t.binds sb → HoldsT w ok t.args sl → t.size ≤ 1000000 →
    Calls Try.prog 17 #[tmv sb t.kind t.idx sl] w fun e w' => e = .returned (.int .i64 (t.depth : Int)) ∧ Below w.heap.size w w' := by
  induction t using Tm.ind with
  | h t ih =>
  intro ok sb sl w hb ha hsz
  obtain ⟨ts, hts⟩ : ∃ ts, t.args = ts := ⟨_, rfl⟩
  have hsz2 := t.size_eq
  have hdp := t.depth_eq
  have hds := t.depth_le_size
  rw [hts] at ha ih hsz2 hdp
  obtain ⟨x1, x2, rfl, _⟩ := hb.shape
  generalize t.binds.length = bn at *
  obtain ⟨a, cap, rfl, hcap, hat⟩ := ha.shape
  have HA : Hid _ := hat
  clear hat ha hb
  have hln := sizeT_length ts
  obtain ⟨B, hB⟩ : ∃ B, w.heap.size = B := ⟨_, rfl⟩
  go_enter Try.func17, Try.ntmps17
  go_wp2
  generalize hw0 : w.alloc (.cells #[.slice x1 bn x2, .int .i64 t.kind, .int .i64 t.idx, .slice a ts.length cap] 27) = w0
  have b0 : Blk w0 B 27 #[.slice x1 bn x2, .int .i64 t.kind, .int .i64 t.idx, .slice a ts.length cap] := by rw [← hw0]; exact Blk.new' w B 27 _ hB
  have bl0 : Below B w w0 := by rw [← hw0]; exact (Below.refl B w).alloc (by omega) _
  clear hw0
  go_loopw [3, 4] (fun n i wr => ∃ k : Nat, k ≤ ts.length ∧ i = .int .i64 k ∧ n = .int .i64 ((depthT (ts.take k) : Nat) : Int) ∧ Blk wr B 27 #[.slice x1 bn x2, .int .i64 t.kind, .int .i64 t.idx, .slice a ts.length cap] ∧ Below B w wr)
    (fun _ i _ => ts.length - (intOf i).toNat)
  case atStart => exact ⟨0, Nat.zero_le _, rfl, by simp [depthT], b0, bl0⟩
  case round =>
    clear b0 bl0
    obtain ⟨k, hk, rfl, rfl, hb, hbl⟩ := hrel
    have r0 := hb.cell 3
    have hdk := depthT_take_le ts k
    by_cases hlt : k < ts.length
    · obtain ⟨u, hu⟩ : ∃ u, ts[k]? = some u := ⟨_, List.getElem?_eq_getElem hlt⟩
      obtain ⟨g, o, s, r, rfl, _, hg, a0, a1, a2, a3, hs, hr⟩ := HA.out k u hu
      have q0 := (cat hbl (by omega)).trans a0
      have q1 := (cat hbl (by omega)).trans a1
      have q2 := (cat hbl (by omega)).trans a2
      have q3 := (cat hbl (by omega)).trans a3
      have hm := List.mem_of_getElem? hu
      have hus := tsize_mem hm
      have hud := u.depth_le_size
      have hS : Hid (depthT (ts.take (k + 1)) = max (depthT (ts.take k)) u.depth) := depthT_take hu
      have y1 : (0 : Int) ≤ (k : Int) := by omega
      have y2 : (k : Int) < (ts.length : Int) := by omega
      have hs2 := hs.bel (hB ▸ hbl)
      have hr2 := hr.bel (hB ▸ hbl)
      clear a0 a1 a2 a3 hu
      go_wp2_with (go_at_call 17; refine (ih u hm ok s r _ hs2 hr2 (by omega)).mono ?_; rintro e w1 ⟨rfl, hb1⟩)
      all_goals
        go_roundw
        case rel => exact ⟨k + 1, by omega, by go_num, by rw [hS.out]; go_num, hb.below hb1 hb.lt, hbl.trans (hb1.mono (by have := hbl.size; omega))⟩
        case measure => simp [intOf]; omega
    · obtain rfl : k = ts.length := by omega
      have hdk2 := depthT_take_le ts ts.length
      rw [List.take_length] at hdk2
      go_wp2
      go_ret
      exact ⟨ret_int (by omega), hB ▸ hbl⟩

end Go.Proofs.Ytheokboggjnenaa
