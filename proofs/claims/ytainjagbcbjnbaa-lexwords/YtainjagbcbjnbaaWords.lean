/-
  The walk of the law LexWords: whatever the text and the kind, it answers true.
-/
import Derived.Test.YtainjagbcbjnbaaIs
namespace Go.Proofs.Ytainjagbcbjnbaa
open Go Go.RowKit Go.Shelf Plain Lex

def cut2 (s : ByteArray) : ByteArray := s.extract 0 (min (s.size : Int) 200).toNat
theorem cut2_size (s : ByteArray) : (cut2 s).size ≤ 200 := by
  unfold cut2; rw [ByteArray.size_extract]; omega

set_option maxRecDepth 100000 in
set_option maxHeartbeats 1600000 in
theorem LexWords_calls (s0 : ByteArray) (_hs0 : s0.size ≤ 9223372036854775807) (kd : Int) (w : World) :
    Calls Try.prog 5 #[.string s0, .int .i64 kd] w fun r w' => r = .returned (.bool true) ∧ Below w.heap.size w w' := by
  obtain ⟨N, hN⟩ : ∃ N, w.heap.size = N := ⟨_, rfl⟩
  have HN : Hid (w.heap.size = N) := hN
  have hsz := cut2_size s0
  have cV := fun w => Value_calls kd (cut2 s0) 0 (by omega) w
  have CI1 : Hid (∀ w, Calls Try.prog 14 #[.string (cut2 s0), .int .i64 1] w fun e w' => e = .returned (.bool (justB (cut2 s0) 1)) ∧ Below w.heap.size w w') := fun w => Is_calls (cut2 s0) (by omega) 1 (.inl rfl) w
  have CI2 : Hid (∀ w, Calls Try.prog 14 #[.string (cut2 s0), .int .i64 2] w fun e w' => e = .returned (.bool (justB (cut2 s0) 2)) ∧ Below w.heap.size w w') := fun w => Is_calls (cut2 s0) (by omega) 2 (.inr rfl) w
  have CW : Hid (∀ w, Calls Try.prog 15 #[.string (cut2 s0)] w fun e w' => e = .returned (.bool (justB (cut2 s0) 1)) ∧ w = w') := IsWord_calls (cut2 s0) (by omega)
  by_cases hg : kd = 2 ∧ justB (cut2 s0) 2 = true
  · obtain ⟨hg1, hg2⟩ := hg
    have hv : valV (cut2 s0) kd = #[.int .i64 (numV (cut2 s0).data.toList : Int), .int .i64 0] := by unfold valV; rw [if_pos ⟨hg1, hg2⟩]
    rw [hv] at cV
    obtain ⟨hs9, hdg⟩ := just_num _ hg2
    have CR : Hid _ := refValue_calls (cut2 s0) hs9 hdg
    rw [hg2] at CI2
    rw [just_not _ 2 1 hg2 (by omega)] at CI1 CW
    have CV : Hid _ := cV
    subst hg1
    generalize numV (cut2 s0).data.toList = nv at *
    clear cV hv hg2 hdg
    go_enter Try.func5, Try.ntmps5
    go_wp2_with fail
    refine (CV.out _).mono ?_
    rintro e w1 ⟨rfl, hb1⟩
    rw [hN] at hb1
    have hN1 : N ≤ w1.heap.size := by have := hb1.size; omega
    clear hN
    go_wp2_with fail
    refine (CI2.out _).mono ?_
    rintro e w2 ⟨rfl, hb2⟩
    have hb3 : Below N w w2 := hb1.trans (hb2.mono hN1)
    have hN2 : N ≤ w2.heap.size := Nat.le_trans hN1 hb2.size
    clear hb1 hb2 hN1
    go_wp2_with fail
    refine (known_calls _).mono ?_
    rintro e w3 ⟨rfl, hb4⟩
    have hb5 : Below N w w3 := hb3.trans (hb4.mono hN2)
    clear hb3 hb4 hN2
    go_wp2_with (first | (go_at_call 15; refine (CW.out _).mono ?_; rintro e w' ⟨rfl, rfl⟩) | (go_at_call 16; refine (CR.out _).mono ?_; rintro e w' ⟨rfl, rfl⟩))
    go_ret
    exact ⟨rfl, by rw [HN.out]; exact hb5⟩
  · have hv : valV (cut2 s0) kd = #[.int .i64 0, .int .i64 1] := by unfold valV; rw [if_neg hg]
    rw [hv] at cV
    have CV : Hid _ := cV
    obtain ⟨j1, hj1⟩ : ∃ j, justB (cut2 s0) 1 = j := ⟨_, rfl⟩
    rw [hj1] at CI1 CW
    by_cases hk : kd = 2
    · have hg2 : justB (cut2 s0) 2 = false := by
        have : ¬ justB (cut2 s0) 2 = true := fun h => hg ⟨hk, h⟩
        simpa using this
      rw [hg2] at CI2
      subst hk
      clear cV hv hg hj1 hg2
      go_enter Try.func5, Try.ntmps5
      go_wp2_with fail
      refine (CV.out _).mono ?_
      rintro e w1 ⟨rfl, hb1⟩
      rw [hN] at hb1
      have hN1 : N ≤ w1.heap.size := by have := hb1.size; omega
      clear hN
      go_wp2_with fail
      refine (CI2.out _).mono ?_
      rintro e w2 ⟨rfl, hb2⟩
      have hb3 : Below N w w2 := hb1.trans (hb2.mono hN1)
      have hN2 : N ≤ w2.heap.size := Nat.le_trans hN1 hb2.size
      clear hb1 hb2 hN1
      go_wp2_with fail
      refine (known_calls _).mono ?_
      rintro e w3 ⟨rfl, hb4⟩
      have hb5 : Below N w w3 := hb3.trans (hb4.mono hN2)
      have hN3 : N ≤ w3.heap.size := Nat.le_trans hN2 hb4.size
      clear hb3 hb4 hN2
      go_wp2_with (go_at_call 15; refine (CW.out _).mono ?_; rintro e w' ⟨rfl, rfl⟩)
      refine (CI1.out _).mono ?_
      rintro e w4 ⟨rfl, hb6⟩
      have hb7 : Below N w w4 := hb5.trans (hb6.mono hN3)
      cases j1
      all_goals
        go_wp2
        go_ret
        exact ⟨rfl, by rw [HN.out]; exact hb7⟩
    · have hkb : (kd != 2) = true := by simp [hk]
      clear cV hv hg hj1 hk
      go_enter Try.func5, Try.ntmps5
      go_wp2_with fail
      refine (CV.out _).mono ?_
      rintro e w1 ⟨rfl, hb1⟩
      rw [hN] at hb1
      have hN1 : N ≤ w1.heap.size := by have := hb1.size; omega
      clear hN
      go_wp2_with fail
      refine (known_calls _).mono ?_
      rintro e w3 ⟨rfl, hb4⟩
      have hb5 : Below N w w3 := hb1.trans (hb4.mono hN1)
      have hN3 : N ≤ w3.heap.size := Nat.le_trans hN1 hb4.size
      clear hb1 hb4
      go_wp2_with (go_at_call 15; refine (CW.out _).mono ?_; rintro e w' ⟨rfl, rfl⟩)
      refine (CI1.out _).mono ?_
      rintro e w4 ⟨rfl, hb6⟩
      have hb7 : Below N w w4 := hb5.trans (hb6.mono hN3)
      cases j1
      all_goals
        go_wp2
        go_ret
        exact ⟨rfl, by rw [HN.out]; exact hb7⟩

end Go.Proofs.Ytainjagbcbjnbaa
