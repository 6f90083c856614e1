/-
  The contracts of lex.front, check, head, fresh, start, isJust; strings.Clone; the document's Head.
-/
import Derived.Test.YtdihplmlbfggjaaDoorLxCut
namespace Go.Proofs.YtdihplmlbfggjaaDoor.Lx
open Go Go.RowKit Go.Shelf Plain Lex

theorem pref_take (l : List UInt8) : Lib.hasPrefix l [45, 62] = decide (l.take 2 = [45, 62]) := by
  rw [Bool.eq_iff_iff, decide_eq_true_eq]
  unfold Lib.hasPrefix
  rw [List.isPrefixOf_iff_prefix]
  constructor
  · rintro ⟨t, rfl⟩; rfl
  · intro h; exact ⟨l.drop 2, by rw [← h]; exact List.take_append_drop 2 l⟩

theorem empty_of (s : ByteArray) (h : s.size = 0) : s = ⟨#[]⟩ := by
  apply ByteArray.ext
  exact Array.eq_empty_of_size_eq_zero h

set_option maxHeartbeats 1600000 in
theorem front_calls (s : ByteArray) (hs : s.size ≤ 281474976710656) (w : World) : Calls Tryd.prog 64 #[.string s] w fun e w' => e = .returned (.tuple #[.int .i64 ((front s.data.toList).1 : Int), .int .i64 ((front s.data.toList).2 : Int)]) ∧ w = w' := by
  by_cases h0 : s.size = 0
  · obtain rfl := empty_of s h0
    go_enter Tryd.func64, Tryd.ntmps64
    go_wp2
    go_ret2
    exact ⟨rfl, rfl⟩
  · have hpos : 0 < s.size := by omega
    have hL := drop_cons s 0 hpos
    simp only [List.drop_zero] at hL
    obtain ⟨d0, hd0⟩ : ∃ d, letterB s[0] = d := ⟨_, rfl⟩
    obtain ⟨d1, hd1⟩ : ∃ d, digitB s[0] = d := ⟨_, rfl⟩
    obtain ⟨d2, hd2⟩ : ∃ d, decide (s.data.toList.take 2 = [45, 62]) = d := ⟨_, rfl⟩
    obtain ⟨d3, hd3⟩ : ∃ d, signB s[0] = d := ⟨_, rfl⟩
    have hF : front s.data.toList = if d0 = true then (1, (s.data.toList.takeWhile wordB).length) else if d1 = true then (2, (s.data.toList.takeWhile digitB).length) else if d2 = true then (3, 2) else if d3 = true then (3, 1) else (0, 1) := by
      unfold front
      rw [hL]
      simp only
      rw [← hL, hd0, hd1, hd3]
      subst hd2
      simp only [decide_eq_true_eq]
    have c0 := isLetter_calls s[0]
    have c1 := isDigit_calls s[0]
    have c3 := isSign_calls s[0]
    have c2 : ∀ w, Calls Tryd.prog 74 #[.string s, .string ⟨#[45, 62]⟩] w fun e w' => e = .returned (.bool d2) ∧ w = w' := by
      intro w
      refine (Tryd.strings_HasPrefix _ _ _).mono ?_
      rintro e w' ⟨rfl, rfl⟩
      refine ⟨?_, rfl⟩
      rw [← hd2, ← pref_take]
    rw [hd0] at c0
    rw [hd1] at c1
    rw [hd3] at c3
    have HF : Hid _ := hF
    have C0 : Hid _ := c0
    have C1 : Hid _ := c1
    have C2 : Hid _ := c2
    have C3 : Hid _ := c3
    have hne : s.toList.isEmpty = false := by
      rw [Lib.toList_data, hL]; rfl
    clear hd0 hd1 hd2 hd3 hF c0 c1 c2 c3 hL
    cases d0 with
    | true =>
      go_enter Tryd.func64, Tryd.ntmps64
      go_wp2_with (first | (go_at_call 70; refine (C0.out _).mono ?_; rintro e w' ⟨rfl, rfl⟩) | (go_at_call 73; refine (C1.out _).mono ?_; rintro e w' ⟨rfl, rfl⟩) | (go_at_call 74; refine (C2.out _).mono ?_; rintro e w' ⟨rfl, rfl⟩) | (go_at_call 75; refine (C3.out _).mono ?_; rintro e w' ⟨rfl, rfl⟩) | (go_at_call 71; refine (span58_calls s hs _).mono ?_; rintro e w' ⟨rfl, rfl⟩))
      go_ret2
      exact ⟨by rw [HF.out]; rfl, rfl⟩
    | false =>
      cases d1 with
      | true =>
        go_enter Tryd.func64, Tryd.ntmps64
        go_wp2_with (first | (go_at_call 70; refine (C0.out _).mono ?_; rintro e w' ⟨rfl, rfl⟩) | (go_at_call 73; refine (C1.out _).mono ?_; rintro e w' ⟨rfl, rfl⟩) | (go_at_call 74; refine (C2.out _).mono ?_; rintro e w' ⟨rfl, rfl⟩) | (go_at_call 75; refine (C3.out _).mono ?_; rintro e w' ⟨rfl, rfl⟩) | (go_at_call 71; refine (span59_calls s hs _).mono ?_; rintro e w' ⟨rfl, rfl⟩))
        go_ret2
        exact ⟨by rw [HF.out]; rfl, rfl⟩
      | false =>
        cases d2 <;> cases d3
        all_goals
          go_enter Tryd.func64, Tryd.ntmps64
          go_wp2_with (first | (go_at_call 70; refine (C0.out _).mono ?_; rintro e w' ⟨rfl, rfl⟩) | (go_at_call 73; refine (C1.out _).mono ?_; rintro e w' ⟨rfl, rfl⟩) | (go_at_call 74; refine (C2.out _).mono ?_; rintro e w' ⟨rfl, rfl⟩) | (go_at_call 75; refine (C3.out _).mono ?_; rintro e w' ⟨rfl, rfl⟩) | (go_at_call 71; refine (span59_calls s hs _).mono ?_; rintro e w' ⟨rfl, rfl⟩))
          go_ret2
          exact ⟨by rw [HF.out]; rfl, rfl⟩

theorem check_calls (kd n : Nat) (w : World) : Calls Tryd.prog 65 #[.int .i64 (kd : Int), .int .i64 (n : Int)] w fun e w' => e = .returned (.int .i64 (check kd n : Int)) ∧ w = w' := by
  obtain ⟨d0, hd0⟩ : ∃ d, ((kd : Int) == 0) = d := ⟨_, rfl⟩
  obtain ⟨d1, hd1⟩ : ∃ d, ((kd : Int) == 1) = d := ⟨_, rfl⟩
  obtain ⟨d2, hd2⟩ : ∃ d, ((kd : Int) == 2) = d := ⟨_, rfl⟩
  obtain ⟨d3, hd3⟩ : ∃ d, decide ((30 : Int) < (n : Int)) = d := ⟨_, rfl⟩
  obtain ⟨d4, hd4⟩ : ∃ d, decide ((9 : Int) < (n : Int)) = d := ⟨_, rfl⟩
  have hC : check kd n = if d0 = true then 3 else if (d1 && d3 || d2 && d4) = true then 2 else 0 := by
    subst hd0; subst hd1; subst hd2; subst hd3; subst hd4
    unfold check
    have e0 : (((kd : Int) == 0) = true) ↔ kd = 0 := by simp
    have e1 : (((kd : Int) == 1) = true) ↔ kd = 1 := by simp; omega
    have e2 : (((kd : Int) == 2) = true) ↔ kd = 2 := by simp; omega
    have e3 : (decide ((30 : Int) < (n : Int)) = true) ↔ 30 < n := by simp; omega
    have e4 : (decide ((9 : Int) < (n : Int)) = true) ↔ 9 < n := by simp; omega
    simp only [Bool.or_eq_true, Bool.and_eq_true, e0, e1, e2, e3, e4]
  have HC : Hid _ := hC
  clear hC
  cases d0 <;> cases d1 <;> cases d2 <;> cases d3 <;> cases d4
  all_goals
    go_enter Tryd.func65, Tryd.ntmps65
    go_wp2
    go_ret
    exact ⟨by rw [HC.out]; rfl, rfl⟩

set_option maxHeartbeats 400000 in
theorem clone_calls (s : ByteArray) (hs : s.size ≤ 281474976710656) (w : World) :
    Calls Tryd.prog 36 #[.string s] w fun e w' => e = .returned (.string s) ∧ Below w.heap.size w w' := by
  go_enter Tryd.func36, Tryd.ntmps36
  go_wp2_with (go_at_call 50; refine (Tryd.stringslite_Clone _ _ hs).mono ?_; rintro e w' ⟨rfl, hb⟩)
  go_ret
  exact ⟨rfl, hb⟩

theorem headB_size (s : ByteArray) : (headB s).size ≤ 10 := by
  unfold headB; rw [ByteArray.size_extract]; omega

theorem headB_all (s : ByteArray) (h : s.size ≤ 10) : headB s = s := by
  unfold headB
  have : (min (s.size : Int) 10).toNat = s.size := by omega
  rw [this]
  exact ByteArray.extract_zero_size
theorem headB_ten (s : ByteArray) (h : 10 < s.size) : headB s = s.extract 0 10 := by
  unfold headB
  have : (min (s.size : Int) 10).toNat = 10 := by omega
  rw [this]

theorem refHead_calls (s : ByteArray) (hs : s.size ≤ 281474976710656) (w : World) :
    Calls Tryd.prog 63 #[.string s] w fun e w' => e = .returned (.string (headB s)) ∧ w = w' := by
  by_cases h : 10 < s.size
  · have HH : Hid (headB s = s.extract 0 10) := headB_ten s h
    go_enter Tryd.func63, Tryd.ntmps63
    go_wp2
    go_ret
    exact ⟨by rw [HH.out]; rfl, rfl⟩
  · have HH : Hid (headB s = s) := headB_all s (by omega)
    go_enter Tryd.func63, Tryd.ntmps63
    go_wp2
    go_ret
    exact ⟨by rw [HH.out]; rfl, rfl⟩

/-- A token as a value. -/
def tokV (kd : Int) (s : ByteArray) (p : Int) : Value := .agg #[.int .i64 kd, .string s, .int .i64 p]

end Go.Proofs.YtdihplmlbfggjaaDoor.Lx
