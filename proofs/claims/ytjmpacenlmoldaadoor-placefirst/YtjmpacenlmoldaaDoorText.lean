/-
  The contracts of place.Text (what a fault is told as) and of the laws' 'known' (the chapter's examples hold), where the package's tables hold what the program's text lays.
-/
import Derived.Test.YtjmpacenlmoldaaDoorName
import Derived.Lib.QuietBelow
import Derived.Shelf.RegionOpenPlain
namespace Go.Proofs.YtjmpacenlmoldaaDoor
open Go Go.RowKit Go.Shelf Go.Sort Plain

/-- What the two tables hold that the calls read. -/
structure Laid (W : World) : Prop where
  tab : Lib.TabIs Tryd.prog W "internal/strconv.uint64pow10" .u64 Lib.pow10Tab
  words : ∀ i, i < 14 → W.cell? ⟨0, i, none⟩ = some (.string (wordB i))

theorem gPow : Tryd.prog.globalNamed "internal/strconv.uint64pow10" = some 2 := by kernel_rfl

theorem Laid.lt {W : World} (h : Laid W) : 2 < W.heap.size := by
  have := h.tab.cell gPow 0 (by decide)
  exact block_lt_of_cell this

theorem Laid.below {W W' : World} (h : Laid W) (hb : Below W.heap.size W W') : Laid W' :=
  ⟨var?_below hb gPow h.lt h.tab, fun i hi => (hb.cell (p := ⟨0, i, none⟩) (by have := h.lt; show 0 < _; omega)).trans (h.words i hi)⟩

theorem Name_calls (e : Int) (w : World) (hL : Laid w) :
    Calls Tryd.prog 25 #[.int .i64 e] w fun r w' => r = .returned (.string (nameB e)) ∧ Below w.heap.size w w' := by
  by_cases h : 0 ≤ e ∧ e < 14
  · refine (Name_in e h.1 h.2 w (hL.words _ (by omega))).mono ?_
    rintro r w' ⟨rfl, rfl⟩
    exact ⟨rfl, Below.refl _ _⟩
  · refine (Name_out e (by omega) w).mono ?_
    rintro r w' ⟨rfl, rfl⟩
    exact ⟨rfl, Below.refl _ _⟩

theorem grow_below (w : World) (k : Nat) (os : Array Obj) : Below w.heap.size w (grow (w.drewN k) os) := by
  refine ⟨?_, ?_, ?_, ?_, ?_⟩ <;> simp [grow, World.drewN]
  intro i hi
  simp [Array.getElem?_append, hi]

theorem Itoa_calls (n : Int) (h0 : -9223372036854775808 ≤ n) (h1 : n ≤ 9223372036854775807) (w : World) (hL : Laid w) :
    Calls Tryd.prog 31 #[.int .i64 n] w fun r w' => r = .returned (.string ⟨(Lib.itoa n).toArray⟩) ∧ Below w.heap.size w w' := by
  refine (Tryd.strconv_Itoa n h0 h1 w hL.tab).mono ?_
  rintro r w' ⟨rfl, k, os, rfl⟩
  exact ⟨rfl, grow_below w k os⟩

theorem itoa_len (n : Int) (h0 : -9223372036854775808 ≤ n) (h1 : n ≤ 9223372036854775807) : (Lib.itoa n).length ≤ 922337203685477590 := by
  unfold Lib.itoa
  split
  · have := decDigits_len n.natAbs
    simp only [List.length_cons]; omega
  · have := decDigits_len n.toNat
    omega

theorem nameB_len (e : Int) : (nameB e).size ≤ 8 := by
  unfold nameB
  split
  · rename_i h
    have : e = 0 ∨ e = 1 ∨ e = 2 ∨ e = 3 ∨ e = 4 ∨ e = 5 ∨ e = 6 ∨ e = 7 ∨ e = 8 ∨ e = 9 ∨ e = 10 ∨ e = 11 ∨ e = 12 ∨ e = 13 := by omega
    rcases this with rfl | rfl | rfl | rfl | rfl | rfl | rfl | rfl | rfl | rfl | rfl | rfl | rfl | rfl <;> decide
  · decide

/-- What stands ahead of the fault's own word. -/
def headB (c a b : Int) : ByteArray := ((((⟨(Lib.itoa a).toArray⟩ : ByteArray) ++ ⟨#[58]⟩) ++ ⟨(Lib.itoa b).toArray⟩) ++ ⟨#[58, 32]⟩) ++ nameB c
/-- What a fault is told as. -/
def textB (c a b : Int) (wd : ByteArray) : ByteArray := if wd.size = 0 then headB c a b else headB c a b ++ (⟨#[32]⟩ ++ wd)

theorem textB_some (c a b : Int) (wd : ByteArray) (h : (!wd.toList.isEmpty) = true) : textB c a b wd = headB c a b ++ (⟨#[32]⟩ ++ wd) := by
  unfold textB
  rw [if_neg]
  intro h0
  rw [Lib.toList_data] at h
  have : wd.data.toList = [] := List.eq_nil_of_length_eq_zero (by simpa using h0)
  rw [this] at h
  cases h
theorem textB_none (c a b : Int) (wd : ByteArray) (h : (!wd.toList.isEmpty) = false) : textB c a b wd = headB c a b := by
  unfold textB
  rw [if_pos]
  rw [Lib.toList_data] at h
  have : wd.data.toList = [] := by
    cases hl : wd.data.toList with
    | nil => rfl
    | cons x l => rw [hl] at h; cases h
  have := congrArg List.length this
  simpa using this

set_option maxHeartbeats 1600000 in
set_option maxRecDepth 100000 in
theorem Text_calls (c a b : Int) (wd : ByteArray) (hwd : wd.size ≤ 281474976710656) (ha0 : -9223372036854775808 ≤ a) (ha1 : a ≤ 9223372036854775807) (hb0 : -9223372036854775808 ≤ b) (hb1 : b ≤ 9223372036854775807) (w : World) (hL : Laid w) :
    Calls Tryd.prog 24 #[.agg #[.int .i64 c, .int .i64 a, .int .i64 b, .string wd]] w fun r w' => r = .returned (.string (textB c a b wd)) ∧ Below w.heap.size w w' := by
  obtain ⟨N, hN⟩ : ∃ N, w.heap.size = N := ⟨_, rfl⟩
  have HN : Hid (w.heap.size = N) := hN
  have la := itoa_len a ha0 ha1
  have lb := itoa_len b hb0 hb1
  have ln := nameB_len c
  go_enter Tryd.func24, Tryd.ntmps24
  go_wp2
  generalize hW : w.alloc (.cells #[.int .i64 c, .int .i64 a, .int .i64 b, .string wd] 53) = W
  have b0 : Blk W N 53 #[.int .i64 c, .int .i64 a, .int .i64 b, .string wd] := by rw [← hW]; exact Blk.new' w N 53 _ hN
  have hbW : Below N w W := by rw [← hW]; exact (Below.refl N w).alloc (by simp [hN]) _
  have hLW : Laid W := hL.below (by rw [hN]; exact hbW)
  have hNW : N ≤ W.heap.size := Nat.le_of_lt b0.lt
  clear hW hN
  have k0 : ∀ d os, (grow (redrawn W d) os).cell? ⟨N, 0, none⟩ = some (.int .i64 c) := fun d os => cell_regrown (b0.cell 0) d os
  have k1 : ∀ d os, (grow (redrawn W d) os).cell? ⟨N, 1, none⟩ = some (.int .i64 a) := fun d os => cell_regrown (b0.cell 1) d os
  have k2 : ∀ d os, (grow (redrawn W d) os).cell? ⟨N, 2, none⟩ = some (.int .i64 b) := fun d os => cell_regrown (b0.cell 2) d os
  have k3 : ∀ d os, (grow (redrawn W d) os).cell? ⟨N, 3, none⟩ = some (.string wd) := fun d os => cell_regrown (b0.cell 3) d os
  have cA : ∀ d os, Calls Tryd.prog 31 #[.int .i64 a] (grow (redrawn W d) os) fun e w'' => e = .returned (.string ⟨(Lib.itoa a).toArray⟩) ∧ ∃ p : Regrown, w'' = grow (redrawn W p.d) p.os := fun d os => Calls.regrown_of (Itoa_calls a ha0 ha1 _ (hLW.below (below_regrown W d os)))
  have cB : ∀ d os, Calls Tryd.prog 31 #[.int .i64 b] (grow (redrawn W d) os) fun e w'' => e = .returned (.string ⟨(Lib.itoa b).toArray⟩) ∧ ∃ p : Regrown, w'' = grow (redrawn W p.d) p.os := fun d os => Calls.regrown_of (Itoa_calls b hb0 hb1 _ (hLW.below (below_regrown W d os)))
  have cC : ∀ d os, Calls Tryd.prog 25 #[.int .i64 c] (grow (redrawn W d) os) fun e w'' => e = .returned (.string (nameB c)) ∧ ∃ p : Regrown, w'' = grow (redrawn W p.d) p.os := fun d os => Calls.regrown_of (Name_calls c _ (hLW.below (below_regrown W d os)))
  have CA : Hid _ := cA
  have CB : Hid _ := cB
  have CC : Hid _ := cC
  clear cA cB cC
  have n1 : ¬ 9223372036854775807 < (Lib.itoa a).length + 1 := by omega
  have n2 : ¬ 9223372036854775807 < (Lib.itoa a).length + 1 + (Lib.itoa b).length := by omega
  have n3 : ¬ 9223372036854775807 < (Lib.itoa a).length + 1 + (Lib.itoa b).length + 2 := by omega
  have n5 : ¬ 9223372036854775807 < 1 + wd.size := by omega
  have n6 : ¬ 9223372036854775807 < (Lib.itoa a).length + 1 + (Lib.itoa b).length + 2 + (nameB c).size + (1 + wd.size) := by omega
  have n4 : ¬ 9223372036854775807 < (Lib.itoa a).length + 1 + (Lib.itoa b).length + 2 + (nameB c).size := by omega
  refine wp_region_quiet_below (by kernel_rfl) (by kernel_rfl) ?_
  repeat (quiet_step (first | exact CA.out _ _ | exact CB.out _ _ | exact CC.out _ _))
  refine wpQuiet_nil ?_
  intro _ hw'
  obtain ⟨⟨dq, osq⟩, hw''⟩ := hw'
  subst hw''
  go_wp2
  · rename_i h
    go_ret
    exact ⟨by rw [textB_some c a b wd h]; rfl, by rw [HN.out]; exact hbW.trans ((below_regrown W dq osq).mono hNW)⟩
  · rename_i h
    go_ret
    exact ⟨by rw [textB_none c a b wd h]; rfl, by rw [HN.out]; exact hbW.trans ((below_regrown W dq osq).mono hNW)⟩

theorem known_of (w : World) : Calls Tryd.prog 9 #[.string ⟨#[97, 98, 10, 99]⟩, .int .i64 3] w fun e w' => e = .returned (.tuple #[.agg #[.int .i64 2, .int .i64 1], .int .i64 0]) ∧ Below w.heap.size w w' :=
  Of_calls ⟨#[97, 98, 10, 99]⟩ (by decide) 3 (by decide) w

theorem known_line (w : World) : Calls Tryd.prog 17 #[.string ⟨#[97, 98, 10, 99]⟩, .int .i64 2] w fun e w' => e = .returned (.tuple #[.string ⟨#[99]⟩, .int .i64 0]) ∧ Below w.heap.size w w' :=
  Line_some ⟨#[97, 98, 10, 99]⟩ (by decide) 2 3 ⟨#[99]⟩ rfl w

theorem known_textB : textB 4 2 1 ⟨#[120]⟩ = ⟨#[50, 58, 49, 58, 32, 110, 97, 109, 101, 32, 120]⟩ := by
  have h2 : Lib.itoa 2 = [50] := by simp [Lib.itoa, Lib.decDigits]
  have h1 : Lib.itoa 1 = [49] := by simp [Lib.itoa, Lib.decDigits]
  unfold textB headB
  rw [h1, h2]
  rfl

theorem known_text (w : World) (hL : Laid w) : Calls Tryd.prog 24 #[.agg #[.int .i64 4, .int .i64 2, .int .i64 1, .string ⟨#[120]⟩]] w fun e w' => e = .returned (.string ⟨#[50, 58, 49, 58, 32, 110, 97, 109, 101, 32, 120]⟩) ∧ Below w.heap.size w w' := by
  have := Text_calls 4 2 1 ⟨#[120]⟩ (by decide) (by decide) (by decide) (by decide) (by decide) w hL
  rw [known_textB] at this
  exact this

set_option maxHeartbeats 800000 in
theorem known_calls (w : World) (hL : Laid w) : Calls Tryd.prog 13 #[] w fun e w' => e = .returned (.bool true) ∧ Below w.heap.size w w' := by
  obtain ⟨N, hN⟩ : ∃ N, w.heap.size = N := ⟨_, rfl⟩
  have HN : Hid (w.heap.size = N) := hN
  clear hN
  go_enter Tryd.func13, Tryd.ntmps13
  go_wp2_with fail
  refine (known_of _).mono ?_
  rintro e w1 ⟨rfl, hb1⟩
  go_wp2_with fail
  obtain ⟨M, hM⟩ : ∃ M, w1.heap.size = M := ⟨_, rfl⟩
  rw [hM]
  generalize hW : w1.alloc (.cells #[.int .i64 2, .int .i64 1] 25) = W2
  have b2 : Blk W2 M 25 #[.int .i64 2, .int .i64 1] := by rw [← hW]; exact Blk.new' w1 M 25 _ hM
  have hb2 : Below w1.heap.size w1 W2 := by rw [← hW]; exact (Below.refl _ _).alloc (Nat.le_refl _) _
  have hbw2 : Below w.heap.size w W2 := hb1.trans (hb2.mono hb1.size)
  clear hW hM
  refine (known_line _).mono ?_
  rintro e w3 ⟨rfl, hb3⟩
  have b3 := b2.below hb3 b2.lt
  have hbw3 : Below w.heap.size w w3 := hbw2.trans (hb3.mono hbw2.size)
  have q0 : w3.cell? ⟨M, 0, none⟩ = some (.int .i64 2) := b3.cell 0
  have q1 : w3.cell? ⟨M, 1, none⟩ = some (.int .i64 1) := b3.cell 1
  go_wp2_with (go_at_call 24; refine (known_text _ (hL.below hbw3)).mono ?_; rintro e w4 ⟨rfl, hb4⟩)
  go_ret
  exact ⟨rfl, hbw3.trans (hb4.mono hbw3.size)⟩

end Go.Proofs.YtjmpacenlmoldaaDoor
