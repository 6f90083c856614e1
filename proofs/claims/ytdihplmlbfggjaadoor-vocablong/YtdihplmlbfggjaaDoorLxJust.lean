/-
  Which texts are just one token: the plain mathematics, and the contracts of lex.isJust, IsWord and of the document's Is.
-/
import Derived.Test.YtdihplmlbfggjaaDoorLxSplits
namespace Go.Proofs.YtdihplmlbfggjaaDoor.Lx
open Go Go.RowKit Go.Shelf Plain Lex

/-- Is the text one token of that kind, and nothing else? -/
def justB (s : ByteArray) (kd : Nat) : Bool := decide ((front s.data.toList).1 = kd) && decide ((front s.data.toList).2 = s.size) && decide (check (front s.data.toList).1 (front s.data.toList).2 = 0)

theorem letter_gap (b : UInt8) : letterB b = true → gapL.contains b = false := all_bytes (fun b => letterB b = true → gapL.contains b = false) (by decide +kernel) b
theorem digit_gap (b : UInt8) : digitB b = true → gapL.contains b = false := all_bytes (fun b => digitB b = true → gapL.contains b = false) (by decide +kernel) b

theorem front_kind (b : UInt8) (r : List UInt8) (h : (front (b :: r)).1 = 1 ∨ (front (b :: r)).1 = 2) : letterB b = true ∨ digitB b = true := by
  unfold front at h
  simp only at h
  by_cases h1 : letterB b = true
  · exact .inl h1
  · rw [if_neg h1] at h
    by_cases h2 : digitB b = true
    · exact .inr h2
    · rw [if_neg h2] at h
      exfalso
      by_cases h3 : (b :: r).take 2 = [45, 62]
      · rw [if_pos h3] at h; simp at h
      · rw [if_neg h3] at h
        by_cases h4 : signB b = true
        · rw [if_pos h4] at h; simp at h
        · rw [if_neg h4] at h; simp at h

theorem just_iff (s : ByteArray) (kd : Nat) (hk : kd = 1 ∨ kd = 2) :
    justB s kd = true ↔ (run s false 0).2 = none ∧ ∃ t, (run s false 0).1 = [t] ∧ t.kind = kd ∧ t.text = s := by
  have h0 : fr s 0 = front s.data.toList := by unfold fr; rw [List.drop_zero]
  unfold justB
  simp only [Bool.and_eq_true, decide_eq_true_eq]
  constructor
  · rintro ⟨⟨e1, e2⟩, e3⟩
    have hpos : 0 < s.size := by
      rcases Nat.eq_zero_or_pos s.size with h | h
      · rw [empty_of s h] at e1
        have : (front (⟨#[]⟩ : ByteArray).data.toList).1 = 4 := rfl
        omega
      · exact h
    have hd := drop_cons s 0 hpos
    rw [List.drop_zero] at hd
    have hg : gapL.contains s[0] = false := by
      rcases front_kind s[0] (s.data.toList.drop (0 + 1)) (by rw [← hd, e1]; exact hk) with h | h
      · exact letter_gap _ h
      · exact digit_gap _ h
    have ha := aft_here s 0 hpos hg
    have hr := run_tok s false 0 (Nat.zero_le _) (by rw [ha, h0]; exact e3) (by rw [ha, h0, e1]; omega)
    rw [ha, h0, e2, Nat.zero_add, run_last] at hr
    rw [hr]
    refine ⟨rfl, _, rfl, ?_, ?_⟩
    · simp only [tokAt, h0, e1]
    · simp only [tokAt, h0, e2, Nat.zero_add]
      exact ByteArray.extract_zero_size
  · rintro ⟨e1, t, e2, e3, e4⟩
    obtain ⟨h1, h2⟩ := aft_le s false 0 (Nat.zero_le _)
    obtain ⟨f1, f2, _, _⟩ := fr_at s _ h2
    rw [run_eq s false 0 (Nat.zero_le _)] at e1 e2
    split at e2
    · simp at e2
    · rename_i hc
      rw [if_neg hc] at e1
      split at e2
      · simp at e2
      · rename_i h4
        simp only [List.cons.injEq] at e2
        have e5 : (tokAt s (aft s false 0)).text.size = s.size := by rw [e2.1, e4]
        have e6 : (tokAt s (aft s false 0)).kind = kd := by rw [e2.1, e3]
        simp only [tokAt] at e5 e6
        rw [ByteArray.size_extract] at e5
        have ha : aft s false 0 = 0 := by have := f2 h4; omega
        rw [ha, h0] at e5 e6 f1
        rw [ha, h0] at hc
        have hc' : check (front s.data.toList).1 (front s.data.toList).2 = 0 := by simpa using hc
        exact ⟨⟨e6, by omega⟩, hc'⟩

theorem just_not (s : ByteArray) (a b : Nat) (h : justB s a = true) (hne : a ≠ b) : justB s b = false := by
  unfold justB at *
  simp only [Bool.and_eq_true, decide_eq_true_eq] at h
  have : decide ((front s.data.toList).1 = b) = false := by simp; omega
  simp [this]

theorem run_code (s : ByteArray) : ∀ (n k : Nat) (rem : Bool) (b : Bad), s.size - k ≤ n → k ≤ s.size → (run s rem k).2 = some b → b.code ≠ 0 := by
  intro n
  induction n with
  | zero =>
    intro k rem b h1 h2 h
    obtain rfl : k = s.size := by omega
    rw [run_last] at h; simp at h
  | succ n ih =>
    intro k rem b h1 h2 h
    obtain ⟨g1, g2⟩ := aft_le s rem k h2
    obtain ⟨f1, f2, _, _⟩ := fr_at s _ g2
    rw [run_eq s rem k h2] at h
    split at h
    · rename_i hc
      simp only [Option.some.injEq] at h
      rw [← h]; exact hc
    · split at h
      · simp at h
      · rename_i h4
        have := f2 h4
        exact ih _ false b (by omega) f1 h

set_option maxHeartbeats 800000 in
theorem isJust_calls (s : ByteArray) (hs : s.size ≤ 281474976710656) (kd : Nat) (w : World) : Calls Tryd.prog 49 #[.string s, .int .i64 kd] w fun e w' => e = .returned (.bool (justB s kd)) ∧ w = w' := by
  have c0 := front_calls s hs
  have hj : justB s kd = (decide ((front s.data.toList).1 = kd) && decide ((front s.data.toList).2 = s.size) && decide (check (front s.data.toList).1 (front s.data.toList).2 = 0)) := rfl
  generalize front s.data.toList = f at *
  obtain ⟨k, n⟩ := f
  simp only at c0 hj
  have c1 := check_calls k n
  generalize check k n = c at *
  obtain ⟨d0, hd0⟩ : ∃ d, ((k : Int) == (kd : Int)) = d := ⟨_, rfl⟩
  obtain ⟨d1, hd1⟩ : ∃ d, ((n : Int) == (s.size : Int)) = d := ⟨_, rfl⟩
  obtain ⟨d2, hd2⟩ : ∃ d, ((c : Int) == 0) = d := ⟨_, rfl⟩
  have e0 : decide (k = kd) = d0 := by rw [← hd0]; rw [Bool.eq_iff_iff]; simp; omega
  have e1 : decide (n = s.size) = d1 := by rw [← hd1]; rw [Bool.eq_iff_iff]; simp; omega
  have e2 : decide (c = 0) = d2 := by rw [← hd2]; rw [Bool.eq_iff_iff]; simp
  rw [e0, e1, e2] at hj
  have HJ : Hid _ := hj
  have C0 : Hid _ := c0
  have C1 : Hid _ := c1
  have hd0' : (k == kd) = d0 := by rw [← e0]; rfl
  have hd1' : (n == s.size) = d1 := by rw [← e1]; rfl
  have hd2' : (c == 0) = d2 := by rw [← e2]; rfl
  clear c0 c1 hj e0 e1 e2
  cases d0 <;> cases d1 <;> cases d2
  all_goals
    go_enter Tryd.func49, Tryd.ntmps49
    go_wp2_with (first | (go_at_call 64; refine (C0.out _).mono ?_; rintro e w' ⟨rfl, rfl⟩) | (go_at_call 65; refine (C1.out _).mono ?_; rintro e w' ⟨rfl, rfl⟩))
    go_ret
    exact ⟨by rw [HJ.out]; rfl, rfl⟩

theorem IsWord_calls (s : ByteArray) (hs : s.size ≤ 281474976710656) (w : World) : Calls Tryd.prog 35 #[.string s] w fun e w' => e = .returned (.bool (justB s 1)) ∧ w = w' := by
  have HC : Hid _ := isJust_calls s hs 1
  go_enter Tryd.func35, Tryd.ntmps35
  go_wp2_with (go_at_call 49; refine (HC.out _).mono ?_; rintro e w' ⟨rfl, rfl⟩)
  go_ret
  exact ⟨rfl, rfl⟩

end Go.Proofs.YtdihplmlbfggjaaDoor.Lx
