/-
  The walk of the law PlaceTexts: whatever the fault, it answers true.
-/
import Derived.Test.YtjmpacenlmoldaaDoorText
namespace Go.Proofs.YtjmpacenlmoldaaDoor
open Go Go.RowKit Go.Shelf Go.Sort Plain

theorem app_assoc (x y z : ByteArray) : x ++ y ++ z = x ++ (y ++ z) := ByteArray.append_assoc

set_option maxHeartbeats 400000 in
set_option maxRecDepth 100000 in
theorem PlaceTexts_calls (c a b : Int) (wd : ByteArray) (hwd : wd.size ≤ 281474976710656) (ha0 : -9223372036854775808 ≤ a) (ha1 : a ≤ 9223372036854775807) (hb0 : -9223372036854775808 ≤ b) (hb1 : b ≤ 9223372036854775807) (w : World) (hL : Laid w) :
    Calls Tryd.prog 7 #[.agg #[.int .i64 c, .int .i64 a, .int .i64 b, .string wd]] w fun r w' => r = .returned (.bool true) ∧ Below w.heap.size w w' := by
  obtain ⟨N, hN⟩ : ∃ N, w.heap.size = N := ⟨_, rfl⟩
  have HN : Hid (w.heap.size = N) := hN
  have la := itoa_len a ha0 ha1
  have lb := itoa_len b hb0 hb1
  have ln := nameB_len c
  go_enter Tryd.func7, Tryd.ntmps7
  go_wp2
  generalize hW : w.alloc (.cells #[.int .i64 c, .int .i64 a, .int .i64 b, .string wd] 51) = W
  have b0 : Blk W N 51 #[.int .i64 c, .int .i64 a, .int .i64 b, .string wd] := by rw [← hW]; exact Blk.new' w N 51 _ hN
  have hbW : Below N w W := by rw [← hW]; exact (Below.refl N w).alloc (by simp [hN]) _
  have hLW : Laid W := hL.below (by rw [hN]; exact hbW)
  have hNW : N ≤ W.heap.size := Nat.le_of_lt b0.lt
  clear hW hN
  have k0 : ∀ d os, (grow (redrawn W d) os).cell? ⟨N, 0, none⟩ = some (.int .i64 c) := fun d os => cell_regrown (b0.cell 0) d os
  have k1 : ∀ d os, (grow (redrawn W d) os).cell? ⟨N, 1, none⟩ = some (.int .i64 a) := fun d os => cell_regrown (b0.cell 1) d os
  have k2 : ∀ d os, (grow (redrawn W d) os).cell? ⟨N, 2, none⟩ = some (.int .i64 b) := fun d os => cell_regrown (b0.cell 2) d os
  have cA : ∀ d os, Calls Tryd.prog 22 #[.int .i64 a] (grow (redrawn W d) os) fun e w'' => e = .returned (.string ⟨(Lib.itoa a).toArray⟩) ∧ ∃ p : Regrown, w'' = grow (redrawn W p.d) p.os := fun d os => Calls.regrown_of (Number_calls a ha0 ha1 _)
  have cB : ∀ d os, Calls Tryd.prog 22 #[.int .i64 b] (grow (redrawn W d) os) fun e w'' => e = .returned (.string ⟨(Lib.itoa b).toArray⟩) ∧ ∃ p : Regrown, w'' = grow (redrawn W p.d) p.os := fun d os => Calls.regrown_of (Number_calls b hb0 hb1 _)
  have cC : ∀ d os, Calls Tryd.prog 23 #[.int .i64 c] (grow (redrawn W d) os) fun e w'' => e = .returned (.string (nameB c)) ∧ ∃ p : Regrown, w'' = grow (redrawn W p.d) p.os := fun d os => Calls.regrown_of ((refName_calls c _).mono fun e w' ⟨h1, h2⟩ => ⟨h1, by rw [h2]; exact Below.refl _ _⟩)
  have CA : Hid _ := cA
  have CB : Hid _ := cB
  have CC : Hid _ := cC
  clear cA cB cC
  have n1 : ¬ 9223372036854775807 < (Lib.itoa a).length + 1 := by omega
  have n2 : ¬ 9223372036854775807 < (Lib.itoa a).length + 1 + (Lib.itoa b).length := by omega
  have n3 : ¬ 9223372036854775807 < (Lib.itoa a).length + 1 + (Lib.itoa b).length + 2 := by omega
  have n4 : ¬ 9223372036854775807 < (Lib.itoa a).length + 1 + (Lib.itoa b).length + 2 + (nameB c).size := by omega
  refine wp_region_quiet_below (by kernel_rfl) (by kernel_rfl) ?_
  repeat (quiet_step (first | (go_at_call_of 22 a; exact CA.out _ _) | (go_at_call_of 22 b; exact CB.out _ _) | (go_at_call 23; exact CC.out _ _)))
  refine wpQuiet_nil ?_
  intro _ hw'
  obtain ⟨⟨dq, osq⟩, hw''⟩ := hw'
  subst hw''
  have hbG := below_regrown W dq osq
  generalize hG : grow (redrawn W dq) osq = G at *
  have b1 := b0.below hbG b0.lt
  have hbw : Below N w G := hbW.trans (hbG.mono hNW)
  have hLG := hLW.below hbG
  clear hG k0 k1 k2 CA CB CC
  have q3 : G.cell? ⟨N, 3, none⟩ = some (.string wd) := b1.cell 3
  have hE : (⟨(Lib.itoa a).toArray⟩ : ByteArray) ++ ⟨#[58]⟩ ++ ⟨(Lib.itoa b).toArray⟩ ++ ⟨#[58, 32]⟩ ++ nameB c = headB c a b := rfl
  have hEs : (headB c a b).size ≤ 1844674407370955200 := by
    rw [← hE]
    have e1 : (⟨(Lib.itoa a).toArray⟩ : ByteArray).size = (Lib.itoa a).length := rfl
    have e2 : (⟨(Lib.itoa b).toArray⟩ : ByteArray).size = (Lib.itoa b).length := rfl
    have e3 : (⟨#[58]⟩ : ByteArray).size = 1 := rfl
    have e4 : (⟨#[58, 32]⟩ : ByteArray).size = 2 := rfl
    simp only [ByteArray.size_append, e1, e2, e3, e4]
    omega
  rw [hE]
  clear hE n1 n2 n3 n4 la lb ln
  have m1 : ¬ 9223372036854775807 < (headB c a b).size + 1 := by omega
  have m2 : ¬ 9223372036854775807 < (headB c a b).size + 1 + wd.size := by omega
  have k0 : ∀ d os, (grow (redrawn G d) os).cell? ⟨N, 0, none⟩ = some (.int .i64 c) := fun d os => cell_regrown (b1.cell 0) d os
  have k1 : ∀ d os, (grow (redrawn G d) os).cell? ⟨N, 1, none⟩ = some (.int .i64 a) := fun d os => cell_regrown (b1.cell 1) d os
  have k2 : ∀ d os, (grow (redrawn G d) os).cell? ⟨N, 2, none⟩ = some (.int .i64 b) := fun d os => cell_regrown (b1.cell 2) d os
  have k3 : ∀ d os, (grow (redrawn G d) os).cell? ⟨N, 3, none⟩ = some (.string wd) := fun d os => cell_regrown (b1.cell 3) d os
  have CK : Hid (∀ d os, Calls Tryd.prog 13 #[] (grow (redrawn G d) os) fun e w'' => e = .returned (.bool true) ∧ ∃ p : Regrown, w'' = grow (redrawn G p.d) p.os) := fun d os => Calls.regrown_of (known_calls _ (hLG.below (below_regrown G d os)))
  have CT : Hid (∀ d os, Calls Tryd.prog 11 #[.agg #[.int .i64 a, .int .i64 b]] (grow (redrawn G d) os) fun e w'' => e = .returned (.agg #[.int .i64 a, .int .i64 b]) ∧ ∃ p : Regrown, w'' = grow (redrawn G p.d) p.os) := fun d os => Calls.regrown_of (to_calls a b _)
  have CX : Hid (∀ d os, Calls Tryd.prog 24 #[.agg #[.int .i64 c, .int .i64 a, .int .i64 b, .string wd]] (grow (redrawn G d) os) fun e w'' => e = .returned (.string (textB c a b wd)) ∧ ∃ p : Regrown, w'' = grow (redrawn G p.d) p.os) := fun d os => Calls.regrown_of (Text_calls c a b wd hwd ha0 ha1 hb0 hb1 _ (hLG.below (below_regrown G d os)))
  have CN : Hid (∀ d os, Calls Tryd.prog 25 #[.int .i64 c] (grow (redrawn G d) os) fun e w'' => e = .returned (.string (nameB c)) ∧ ∃ p : Regrown, w'' = grow (redrawn G p.d) p.os) := fun d os => Calls.regrown_of (Name_calls c _ (hLG.below (below_regrown G d os)))
  have CC : Hid (∀ d os, Calls Tryd.prog 23 #[.int .i64 c] (grow (redrawn G d) os) fun e w'' => e = .returned (.string (nameB c)) ∧ ∃ p : Regrown, w'' = grow (redrawn G p.d) p.os) := fun d os => Calls.regrown_of ((refName_calls c _).mono fun e w' ⟨h1, h2⟩ => ⟨h1, by rw [h2]; exact Below.refl _ _⟩)
  go_wp2
  · rename_i h
    have hT : headB c a b ++ ⟨#[32]⟩ ++ wd = textB c a b wd := by
      unfold textB
      rw [if_neg (by omega), app_assoc]
    rw [hT]
    clear hT
    refine wp_region_quiet_below (by kernel_rfl) (by kernel_rfl) ?_
    repeat (quiet_step (first | (go_at_call 13; exact CK.out _ _) | (go_at_call 11; exact CT.out _ _) | (go_at_call 24; exact CX.out _ _) | (go_at_call 25; exact CN.out _ _) | (go_at_call 23; exact CC.out _ _)))
    refine wpQuiet_nil ?_
    intro _ hw'
    obtain ⟨⟨dq2, osq2⟩, hw''⟩ := hw'
    subst hw''
    go_wp2
    go_ret
    exact ⟨rfl, by rw [HN.out]; exact hbw.trans ((below_regrown G dq2 osq2).mono (Nat.le_of_lt b1.lt))⟩
  · rename_i h
    have hT : headB c a b = textB c a b wd := by
      unfold textB
      rw [if_pos (by omega)]
    rw [hT]
    clear hT
    refine wp_region_quiet_below (by kernel_rfl) (by kernel_rfl) ?_
    repeat (quiet_step (first | (go_at_call 13; exact CK.out _ _) | (go_at_call 11; exact CT.out _ _) | (go_at_call 24; exact CX.out _ _) | (go_at_call 25; exact CN.out _ _) | (go_at_call 23; exact CC.out _ _)))
    refine wpQuiet_nil ?_
    intro _ hw'
    obtain ⟨⟨dq2, osq2⟩, hw''⟩ := hw'
    subst hw''
    go_wp2
    go_ret
    exact ⟨rfl, by rw [HN.out]; exact hbw.trans ((below_regrown G dq2 osq2).mono (Nat.le_of_lt b1.lt))⟩

end Go.Proofs.YtjmpacenlmoldaaDoor
