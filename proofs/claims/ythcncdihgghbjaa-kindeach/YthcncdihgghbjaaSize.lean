/-
  The contracts of the document's own Size, Order, Depth.
-/
import Derived.Test.YthcncdihgghbjaaHolds
import Derived.Test.YthcncdihgghbjaaProg
import Derived.WalkKit
import Derived.OwnWalk
import Derived.Deep.QuietTactic
import Derived.BigQuiet
namespace Go.Proofs.Ythcncdihgghbjaa
open Go Go.RowKit

theorem cat {w w' : World} {n g o : Nat} (h : Below n w w') (hg : g < n) : w'.cell? ⟨g, o, none⟩ = w.cell? ⟨g, o, none⟩ := h.cell (p := ⟨g, o, none⟩) hg
theorem ret_int {k : IntKind} {a b : Int} (h : a = b) : Ending.returned (.int k a) = .returned (.int k b) := by rw [h]
theorem ret_bool {a b : Bool} (h : a = b) : Ending.returned (.bool a) = .returned (.bool b) := by rw [h]

theorem sizeL_take {ts : List Ty} {k : Nat} {t : Ty} (h : ts[k]? = some t) : sizeL (ts.take (k + 1)) = sizeL (ts.take k) + t.size := by
  rw [List.take_add_one, h, sizeL_append]; simp [sizeL]
theorem sizeL_take_le (ts : List Ty) (k : Nat) : sizeL (ts.take k) ≤ sizeL ts := by
  conv => rhs; rw [← List.take_append_drop k ts, sizeL_append]
  omega
theorem depthL_take {ts : List Ty} {k : Nat} {t : Ty} (h : ts[k]? = some t) : depthL (ts.take (k + 1)) = max (depthL (ts.take k)) t.depth := by
  rw [List.take_add_one, h, depthL_append]; simp [depthL]

set_option maxRecDepth 100000 in
set_option maxHeartbeats 1000000 in
theorem Size_calls (t : Ty) : ∀ (ok : Nat → Prop) (sl : Value) (w : World), Holds w ok t.args sl → t.size ≤ 1000000 →
    Calls Try.prog 14 #[tv sl t.base] w fun e w' => e = .returned (.int .i64 (t.size : Int)) ∧ Below w.heap.size w w' := by
  induction t using Ty.ind with
  | h t ih =>
  intro ok sl w hh hsz
  obtain ⟨ts, hts⟩ : ∃ ts, t.args = ts := ⟨_, rfl⟩
  have hsz2 := t.size_eq
  rw [hts] at hh ih hsz2
  have HH := hh
  obtain ⟨a, cap, rfl, hcap, hat⟩ := hh.shape
  have HA : Hid _ := hat
  clear hat hh
  have hln := sizeL_length ts
  obtain ⟨B, hB⟩ : ∃ B, w.heap.size = B := ⟨_, rfl⟩
  go_enter Try.func14, Try.ntmps14
  go_wp2
  generalize hw0 : w.alloc (.cells #[.slice a ts.length cap, .int .i64 t.base] 24) = w0
  have b0 : Blk w0 B 24 #[.slice a ts.length cap, .int .i64 t.base] := by rw [← hw0]; exact Blk.new' w B 24 _ hB
  have bl0 : Below B w w0 := by rw [← hw0]; exact (Below.refl B w).alloc (by omega) _
  clear hw0
  go_loopw [3, 4] (fun n i wr => ∃ k : Nat, k ≤ ts.length ∧ i = .int .i64 k ∧ n = .int .i64 ((1 + sizeL (ts.take k) : Nat) : Int) ∧ Blk wr B 24 #[.slice a ts.length cap, .int .i64 t.base] ∧ Below B w wr)
    (fun _ i _ => ts.length - (intOf i).toNat)
  case atStart => exact ⟨0, Nat.zero_le _, rfl, by simp [sizeL], b0, bl0⟩
  case round =>
    clear b0 bl0
    obtain ⟨k, hk, rfl, rfl, hb, hbl⟩ := hrel
    have r0 := hb.cell 0
    have hle := sizeL_take_le ts k
    by_cases hlt : k < ts.length
    · obtain ⟨u, hu⟩ : ∃ u, ts[k]? = some u := ⟨_, List.getElem?_eq_getElem hlt⟩
      obtain ⟨g, o, s, rfl, _, hg, a0, a1, hs⟩ := HA.out k u hu
      have q0 := (cat hbl (by omega)).trans a0
      have q1 := (cat hbl (by omega)).trans a1
      have hm := List.mem_of_getElem? hu
      have hus := size_mem hm
      have hS : Hid (sizeL (ts.take (k + 1)) = sizeL (ts.take k) + u.size) := sizeL_take hu
      have y1 : (0 : Int) ≤ (k : Int) := by omega
      have y2 : (k : Int) < (ts.length : Int) := by omega
      have hs2 : Holds wr ok u.args s := hs.bel (hB ▸ hbl)
      clear a0 a1 hu
      go_wp2_with (go_at_call 14; refine (ih u hm ok s _ hs2 (by omega)).mono ?_; rintro e w1 ⟨rfl, hb1⟩)
      go_roundw
      case rel => exact ⟨k + 1, by omega, by go_num, by rw [hS.out]; go_num, hb.below hb1 hb.lt, hbl.trans (hb1.mono (by have := hbl.size; omega))⟩
      case measure => simp [intOf]; omega
    · obtain rfl : k = ts.length := by omega
      go_wp2
      go_ret
      exact ⟨ret_int (by rw [List.take_length, hsz2]), hB ▸ hbl⟩

-- GEN
theorem depthL_take_le (ts : List Ty) (k : Nat) : depthL (ts.take k) ≤ sizeL ts := by
  have h1 := depthL_le_sizeL (ts.take k) (fun t _ => t.depth_le_size)
  have h2 := sizeL_take_le ts k
  omega

set_option maxRecDepth 100000 in
set_option maxHeartbeats 1000000 in
theorem Depth_calls  (t : Ty) : ∀ (ok : Nat → Prop) (sl : Value) (w : World), Holds w ok t.args sl → t.size ≤ 1000000 →
    Calls Try.prog 18 #[tv sl t.base] w fun e w' => e = .returned (.int .i64 (t.depth : Int)) ∧ Below w.heap.size w w' := by
  induction t using Ty.ind with
  | h t ih =>
  intro ok sl w hh hsz
  obtain ⟨ts, hts⟩ : ∃ ts, t.args = ts := ⟨_, rfl⟩
  have hsz2 := t.size_eq
  have hdp := t.depth_eq
  rw [hts] at hsz2 hdp
  rw [hts] at hh ih
  obtain ⟨a, cap, rfl, hcap, hat⟩ := hh.shape
  have HA : Hid _ := hat
  clear hat hh
  have hln := sizeL_length ts
  obtain ⟨B, hB⟩ : ∃ B, w.heap.size = B := ⟨_, rfl⟩
  go_enter Try.func18, Try.ntmps18
  go_wp2
  generalize hw0 : w.alloc (.cells #[.slice a ts.length cap, .int .i64 t.base] 24) = w0
  have b0 : Blk w0 B 24 #[.slice a ts.length cap, .int .i64 t.base] := by rw [← hw0]; exact Blk.new' w B 24 _ hB
  have bl0 : Below B w w0 := by rw [← hw0]; exact (Below.refl B w).alloc (by omega) _
  clear hw0
  go_loopw [3, 4] (fun n i wr => ∃ k : Nat, k ≤ ts.length ∧ i = .int .i64 k ∧ n = .int .i64 ((depthL (ts.take k) : Nat) : Int) ∧ Blk wr B 24 #[.slice a ts.length cap, .int .i64 t.base] ∧ Below B w wr)
    (fun _ i _ => ts.length - (intOf i).toNat)
  case atStart => exact ⟨0, Nat.zero_le _, rfl, by simp [depthL], b0, bl0⟩
  case round =>
    clear b0 bl0
    obtain ⟨k, hk, rfl, rfl, hb, hbl⟩ := hrel
    have r0 := hb.cell 0
    have r1 := hb.cell 1
    by_cases hlt : k < ts.length
    · obtain ⟨u, hu⟩ : ∃ u, ts[k]? = some u := ⟨_, List.getElem?_eq_getElem hlt⟩
      obtain ⟨g, o, s, rfl, _, hg, a0, a1, hs⟩ := HA.out k u hu
      have q0 := (cat hbl (by omega)).trans a0
      have q1 := (cat hbl (by omega)).trans a1
      have hm := List.mem_of_getElem? hu
      have hus := size_mem hm
      have hS : Hid (depthL (ts.take (k + 1)) = max (depthL (ts.take k)) u.depth) := depthL_take hu
      have hud := u.depth_le_size
      have hdk := depthL_take_le ts k
      have y1 : (0 : Int) ≤ (k : Int) := by omega
      have y2 : (k : Int) < (ts.length : Int) := by omega
      have hs2 : Holds wr ok u.args s := hs.bel (hB ▸ hbl)
      clear a0 a1 hu
      go_wp2_with (go_at_call 18; refine (ih u hm ok s _ hs2 (by omega)).mono ?_; rintro e w1 ⟨rfl, hb1⟩)
      all_goals
        go_roundw
        case rel => exact ⟨k + 1, by omega, by go_num, by rw [hS.out]; go_num, hb.below hb1 hb.lt, hbl.trans (hb1.mono (by have := hbl.size; omega))⟩
        case measure => simp [intOf]; omega
    · obtain rfl : k = ts.length := by omega
      have hdk := depthL_take_le ts ts.length
      rw [List.take_length] at hdk
      go_wp2
      go_ret
      exact ⟨ret_int (by omega), hB ▸ hbl⟩

set_option maxRecDepth 100000 in
set_option maxHeartbeats 1000000 in
theorem Order_calls  (t : Ty) : ∀ (ok : Nat → Prop) (sl : Value) (w : World), Holds w ok t.args sl → t.size ≤ 1000000 →
    Calls Try.prog 16 #[tv sl t.base] w fun e w' => e = .returned (.int .i64 ((t.depth : Int) - 1)) ∧ Below w.heap.size w w' := by
  induction t using Ty.ind with
  | h t ih =>
  intro ok sl w hh hsz
  obtain ⟨ts, hts⟩ : ∃ ts, t.args = ts := ⟨_, rfl⟩
  have hsz2 := t.size_eq
  have hdp := t.depth_eq
  rw [hts] at hsz2 hdp
  rw [hts] at hh ih
  obtain ⟨a, cap, rfl, hcap, hat⟩ := hh.shape
  have HA : Hid _ := hat
  clear hat hh
  have hln := sizeL_length ts
  obtain ⟨B, hB⟩ : ∃ B, w.heap.size = B := ⟨_, rfl⟩
  go_enter Try.func16, Try.ntmps16
  go_wp2
  generalize hw0 : w.alloc (.cells #[.slice a ts.length cap, .int .i64 t.base] 24) = w0
  have b0 : Blk w0 B 24 #[.slice a ts.length cap, .int .i64 t.base] := by rw [← hw0]; exact Blk.new' w B 24 _ hB
  have bl0 : Below B w w0 := by rw [← hw0]; exact (Below.refl B w).alloc (by omega) _
  clear hw0
  go_loopw [3, 4] (fun n i wr => ∃ k : Nat, k ≤ ts.length ∧ i = .int .i64 k ∧ n = .int .i64 ((depthL (ts.take k) : Int) - 1) ∧ Blk wr B 24 #[.slice a ts.length cap, .int .i64 t.base] ∧ Below B w wr)
    (fun _ i _ => ts.length - (intOf i).toNat)
  case atStart => exact ⟨0, Nat.zero_le _, rfl, by simp [depthL], b0, bl0⟩
  case round =>
    clear b0 bl0
    obtain ⟨k, hk, rfl, rfl, hb, hbl⟩ := hrel
    have r0 := hb.cell 0
    have r1 := hb.cell 1
    by_cases hlt : k < ts.length
    · obtain ⟨u, hu⟩ : ∃ u, ts[k]? = some u := ⟨_, List.getElem?_eq_getElem hlt⟩
      obtain ⟨g, o, s, rfl, _, hg, a0, a1, hs⟩ := HA.out k u hu
      have q0 := (cat hbl (by omega)).trans a0
      have q1 := (cat hbl (by omega)).trans a1
      have hm := List.mem_of_getElem? hu
      have hus := size_mem hm
      have hS : Hid (depthL (ts.take (k + 1)) = max (depthL (ts.take k)) u.depth) := depthL_take hu
      have hud := u.depth_le_size
      have hdk := depthL_take_le ts k
      have y1 : (0 : Int) ≤ (k : Int) := by omega
      have y2 : (k : Int) < (ts.length : Int) := by omega
      have hs2 : Holds wr ok u.args s := hs.bel (hB ▸ hbl)
      clear a0 a1 hu
      go_wp2_with (go_at_call 16; refine (ih u hm ok s _ hs2 (by omega)).mono ?_; rintro e w1 ⟨rfl, hb1⟩)
      all_goals
        go_roundw
        case rel => exact ⟨k + 1, by omega, by go_num, by rw [hS.out]; go_num, hb.below hb1 hb.lt, hbl.trans (hb1.mono (by have := hbl.size; omega))⟩
        case measure => simp [intOf]; omega
    · obtain rfl : k = ts.length := by omega
      have hdk := depthL_take_le ts ts.length
      rw [List.take_length] at hdk
      go_wp2
      go_ret
      exact ⟨ret_int (by omega), hB ▸ hbl⟩
end Go.Proofs.Ythcncdihgghbjaa
