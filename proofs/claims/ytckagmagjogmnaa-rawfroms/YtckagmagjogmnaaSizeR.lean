/-
  The contracts of raw.Size, of the document's Size and depth.
-/
import Derived.Test.YtckagmagjogmnaaHoldR
namespace Go.Proofs.Ytckagmagjogmnaa
open Go Go.RowKit

set_option maxRecDepth 100000 in
set_option maxHeartbeats 800000 in
theorem SizeR_calls (t : Rw) : ∀ (ok : Nat → Prop) (sb sl : Value) (w : World), Holds w ok t.ty.args sb → HoldsR w ok t.kids sl → t.size ≤ 1000000 →
    Calls Try.prog 13 #[rwv t.kind sb t.ty.base t.idx sl] w fun e w' => e = .returned (.int .i64 (t.size : Int)) ∧ Below w.heap.size w w' := by
  induction t using Rw.ind with
  | h t ih =>
  intro ok sb sl w hb ha hsz
  obtain ⟨ts, hts⟩ : ∃ ts, t.kids = ts := ⟨_, rfl⟩
  have hsz2 := t.size_eq
  rw [hts] at ha ih hsz2
  obtain ⟨x1, x2, rfl, _⟩ := hb.shape
  generalize t.ty.args.length = bn at *
  obtain ⟨a, cap, rfl, hcap, hat⟩ := ha.shape
  have HA : Hid _ := hat
  have HIH : Hid _ := ih
  clear hat ha hb ih
  have hln := sizeR_length ts
  obtain ⟨B, hB⟩ : ∃ B, w.heap.size = B := ⟨_, rfl⟩
  go_enter Try.func13, Try.ntmps13
  go_wp2
  generalize hw0 : w.alloc (.cells #[.int .i64 t.kind, .slice x1 bn x2, .int .i64 t.ty.base, .int .i64 t.idx, .slice a ts.length cap] 35) = w0
  have bl0 : Below B w w0 := by rw [← hw0]; exact (Below.refl B w).alloc (by omega) _
  clear hw0
  go_loopw [3, 9] (fun n i wr => ∃ k : Nat, k ≤ ts.length ∧ i = .int .i64 k ∧ n = .int .i64 ((1 + sizeR (ts.take k) : Nat) : Int) ∧ Below B w wr)
    (fun _ i _ => ts.length - (intOf i).toNat)
  case atStart => exact ⟨0, Nat.zero_le _, rfl, by simp [sizeR], bl0⟩
  case round =>
    clear bl0
    obtain ⟨k, hk, rfl, rfl, hbl⟩ := hrel
    have hle := sizeR_take_le ts k
    by_cases hlt : k < ts.length
    · obtain ⟨u, hu⟩ : ∃ u, ts[k]? = some u := ⟨_, List.getElem?_eq_getElem hlt⟩
      obtain ⟨g, o, s, r, rfl, _, hg, a0, a1, a2, a3, a4, hs, hr⟩ := HA.out k u hu
      rw [hB] at hg
      obtain ⟨sa, sc, rfl, _⟩ := hs.shape
      obtain ⟨sd, se, rfl, _⟩ := hr.shape
      generalize u.ty.args.length = n1 at *
      generalize u.kids.length = n2 at *
      have q0 := (cat hbl hg).trans a0
      have q1 := (cat hbl hg).trans a1
      have q2 := (cat hbl hg).trans a2
      have q3 := (cat hbl hg).trans a3
      have q4 := (cat hbl hg).trans a4
      have hm := List.mem_of_getElem? hu
      have hus := rsize_mem hm
      have hS : Hid (sizeR (ts.take (k + 1)) = sizeR (ts.take k) + u.size) := sizeR_take hu
      have y1 : (0 : Int) ≤ (k : Int) := by omega
      have y2 : (k : Int) < (ts.length : Int) := by omega
      have hcall := HIH.out u hm ok _ _ (wr.alloc (.cells #[.int .i64 u.kind, .slice sa n1 sc, .int .i64 u.ty.base, .int .i64 u.idx, .slice sd n2 se] 35)) ((hs.bel (hB ▸ hbl)).alloc _) ((hr.bel (hB ▸ hbl)).alloc _) (by omega)
      have hbx := hbl.alloc (by have := hbl.size; omega) (.cells #[.int .i64 u.kind, .slice sa n1 sc, .int .i64 u.ty.base, .int .i64 u.idx, .slice sd n2 se] 35)
      have hsx : B ≤ (wr.alloc (.cells #[.int .i64 u.kind, .slice sa n1 sc, .int .i64 u.ty.base, .int .i64 u.idx, .slice sd n2 se] 35)).heap.size := by have := hbx.size; omega
      clear a0 a1 a2 a3 a4 hu hs hr
      go_wp2_with (go_at_call 13; refine hcall.mono ?_; rintro e w1 ⟨rfl, hb1⟩)
      go_roundw
      case rel => exact ⟨k + 1, by omega, by go_num, by rw [hS.out]; go_num, hbx.trans (hb1.mono hsx)⟩
      case measure => simp [intOf]; omega
    · obtain rfl : k = ts.length := by omega
      go_wp2
      go_ret
      exact ⟨ret_int (by rw [List.take_length, hsz2]), hB ▸ hbl⟩

set_option maxRecDepth 100000 in
set_option maxHeartbeats 800000 in
theorem refSizeR_calls (t : Rw) : ∀ (ok : Nat → Prop) (sb sl : Value) (w : World), Holds w ok t.ty.args sb → HoldsR w ok t.kids sl → t.size ≤ 1000000 →
    Calls Try.prog 14 #[rwv t.kind sb t.ty.base t.idx sl] w fun e w' => e = .returned (.int .i64 (t.size : Int)) ∧ Below w.heap.size w w' := by
  induction t using Rw.ind with
  | h t ih =>
  intro ok sb sl w hb ha hsz
  obtain ⟨ts, hts⟩ : ∃ ts, t.kids = ts := ⟨_, rfl⟩
  have hsz2 := t.size_eq
  rw [hts] at ha ih hsz2
  obtain ⟨x1, x2, rfl, _⟩ := hb.shape
  generalize t.ty.args.length = bn at *
  obtain ⟨a, cap, rfl, hcap, hat⟩ := ha.shape
  have HA : Hid _ := hat
  have HIH : Hid _ := ih
  clear hat ha hb ih
  have hln := sizeR_length ts
  obtain ⟨B, hB⟩ : ∃ B, w.heap.size = B := ⟨_, rfl⟩
  go_enter Try.func14, Try.ntmps14
  go_wp2
  generalize hw0 : w.alloc (.cells #[.int .i64 t.kind, .slice x1 bn x2, .int .i64 t.ty.base, .int .i64 t.idx, .slice a ts.length cap] 27) = w0
  have b0 : Blk w0 B 27 #[.int .i64 t.kind, .slice x1 bn x2, .int .i64 t.ty.base, .int .i64 t.idx, .slice a ts.length cap] := by rw [← hw0]; exact Blk.new' w B 27 _ hB
  have bl0 : Below B w w0 := by rw [← hw0]; exact (Below.refl B w).alloc (by omega) _
  clear hw0
  go_loopw [3, 4] (fun n i wr => ∃ k : Nat, k ≤ ts.length ∧ i = .int .i64 k ∧ n = .int .i64 ((1 + sizeR (ts.take k) : Nat) : Int) ∧ Blk wr B 27 #[.int .i64 t.kind, .slice x1 bn x2, .int .i64 t.ty.base, .int .i64 t.idx, .slice a ts.length cap] ∧ Below B w wr)
    (fun _ i _ => ts.length - (intOf i).toNat)
  case atStart => exact ⟨0, Nat.zero_le _, rfl, by simp [sizeR], b0, bl0⟩
  case round =>
    clear b0 bl0
    obtain ⟨k, hk, rfl, rfl, hb, hbl⟩ := hrel
    have r0 := hb.cell 4
    have hle := sizeR_take_le ts k
    by_cases hlt : k < ts.length
    · obtain ⟨u, hu⟩ : ∃ u, ts[k]? = some u := ⟨_, List.getElem?_eq_getElem hlt⟩
      obtain ⟨g, o, s, r, rfl, _, hg, a0, a1, a2, a3, a4, hs, hr⟩ := HA.out k u hu
      rw [hB] at hg
      have q0 := (cat hbl hg).trans a0
      have q1 := (cat hbl hg).trans a1
      have q2 := (cat hbl hg).trans a2
      have q3 := (cat hbl hg).trans a3
      have q4 := (cat hbl hg).trans a4
      have hm := List.mem_of_getElem? hu
      have hus := rsize_mem hm
      have hS : Hid (sizeR (ts.take (k + 1)) = sizeR (ts.take k) + u.size) := sizeR_take hu
      have y1 : (0 : Int) ≤ (k : Int) := by omega
      have y2 : (k : Int) < (ts.length : Int) := by omega
      have hs2 := hs.bel (hB ▸ hbl)
      have hr2 := hr.bel (hB ▸ hbl)
      clear a0 a1 a2 a3 a4 hu
      go_wp2_with (go_at_call 14; refine (HIH.out u hm ok s r _ hs2 hr2 (by omega)).mono ?_; rintro e w1 ⟨rfl, hb1⟩)
      go_roundw
      case rel => exact ⟨k + 1, by omega, by go_num, by rw [hS.out]; go_num, hb.below hb1 hb.lt, hbl.trans (hb1.mono (by have := hbl.size; omega))⟩
      case measure => simp [intOf]; omega
    · obtain rfl : k = ts.length := by omega
      go_wp2
      go_ret
      exact ⟨ret_int (by rw [List.take_length, hsz2]), hB ▸ hbl⟩

set_option maxRecDepth 100000 in
set_option maxHeartbeats 800000 in
theorem refDepthR_calls (t : Rw) : ∀ (ok : Nat → Prop) (sb sl : Value) (w : World), Holds w ok t.ty.args sb → HoldsR w ok t.kids sl → t.size ≤ 1000000 →
    Calls Try.prog 44 #[rwv t.kind sb t.ty.base t.idx sl] w fun e w' => e = .returned (.int .i64 (t.depth : Int)) ∧ Below w.heap.size w w' := by
  induction t using Rw.ind with
  | h t ih =>
  intro ok sb sl w hb ha hsz
  obtain ⟨ts, hts⟩ : ∃ ts, t.kids = ts := ⟨_, rfl⟩
  have hsz2 := t.size_eq
  have hdp := t.depth_eq
  have hds := t.depth_le_size
  rw [hts] at ha ih hsz2 hdp
  obtain ⟨x1, x2, rfl, _⟩ := hb.shape
  generalize t.ty.args.length = bn at *
  obtain ⟨a, cap, rfl, hcap, hat⟩ := ha.shape
  have HA : Hid _ := hat
  have HIH : Hid _ := ih
  clear hat ha hb ih
  have hln := sizeR_length ts
  obtain ⟨B, hB⟩ : ∃ B, w.heap.size = B := ⟨_, rfl⟩
  go_enter Try.func44, Try.ntmps44
  go_wp2
  generalize hw0 : w.alloc (.cells #[.int .i64 t.kind, .slice x1 bn x2, .int .i64 t.ty.base, .int .i64 t.idx, .slice a ts.length cap] 27) = w0
  have b0 : Blk w0 B 27 #[.int .i64 t.kind, .slice x1 bn x2, .int .i64 t.ty.base, .int .i64 t.idx, .slice a ts.length cap] := by rw [← hw0]; exact Blk.new' w B 27 _ hB
  have bl0 : Below B w w0 := by rw [← hw0]; exact (Below.refl B w).alloc (by omega) _
  clear hw0
  go_loopw [3, 4] (fun n i wr => ∃ k : Nat, k ≤ ts.length ∧ i = .int .i64 k ∧ n = .int .i64 ((depthR (ts.take k) : Nat) : Int) ∧ Blk wr B 27 #[.int .i64 t.kind, .slice x1 bn x2, .int .i64 t.ty.base, .int .i64 t.idx, .slice a ts.length cap] ∧ Below B w wr)
    (fun _ i _ => ts.length - (intOf i).toNat)
  case atStart => exact ⟨0, Nat.zero_le _, rfl, by simp [depthR], b0, bl0⟩
  case round =>
    clear b0 bl0
    obtain ⟨k, hk, rfl, rfl, hb, hbl⟩ := hrel
    have r0 := hb.cell 4
    have hdk := depthR_take_le ts k
    by_cases hlt : k < ts.length
    · obtain ⟨u, hu⟩ : ∃ u, ts[k]? = some u := ⟨_, List.getElem?_eq_getElem hlt⟩
      obtain ⟨g, o, s, r, rfl, _, hg, a0, a1, a2, a3, a4, hs, hr⟩ := HA.out k u hu
      rw [hB] at hg
      have q0 := (cat hbl hg).trans a0
      have q1 := (cat hbl hg).trans a1
      have q2 := (cat hbl hg).trans a2
      have q3 := (cat hbl hg).trans a3
      have q4 := (cat hbl hg).trans a4
      have hm := List.mem_of_getElem? hu
      have hus := rsize_mem hm
      have hud := u.depth_le_size
      have hS : Hid (depthR (ts.take (k + 1)) = max (depthR (ts.take k)) u.depth) := depthR_take hu
      have y1 : (0 : Int) ≤ (k : Int) := by omega
      have y2 : (k : Int) < (ts.length : Int) := by omega
      have hs2 := hs.bel (hB ▸ hbl)
      have hr2 := hr.bel (hB ▸ hbl)
      clear a0 a1 a2 a3 a4 hu
      go_wp2_with (go_at_call 44; refine (HIH.out u hm ok s r _ hs2 hr2 (by omega)).mono ?_; rintro e w1 ⟨rfl, hb1⟩)
      all_goals
        go_roundw
        case rel => exact ⟨k + 1, by omega, by go_num, by rw [hS.out]; go_num, hb.below hb1 hb.lt, hbl.trans (hb1.mono (by have := hbl.size; omega))⟩
        case measure => simp [intOf]; omega
    · obtain rfl : k = ts.length := by omega
      have hdk2 := depthR_take_le ts ts.length
      rw [List.take_length] at hdk2
      go_wp2
      go_ret
      exact ⟨ret_int (by omega), hB ▸ hbl⟩

end Go.Proofs.Ytckagmagjogmnaa
