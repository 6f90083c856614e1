/-
  LxFronts: several texts in one file.
-/
import Derived.Test.YtdihplmlbfggjaaGreatDoorLxBase
/-
  The contracts of the functions that ask of one byte, of both sides: lex.isLetter, isDigit, isWordByte, isBlank, isSign; the document's among, Letter, Digit, Inner.
-/
namespace Go.Proofs.YtdihplmlbfggjaaGreatDoor.Lx
open Go Go.RowKit Go.Shelf Plain Lex

theorem isLetter_calls (b : UInt8) (w : World) : Calls Tryz.prog 66 #[.int .u8 (b.toNat : Int)] w fun e w' => e = .returned (.bool (letterB b)) ∧ w = w' := by
  obtain ⟨d0, hd0⟩ : ∃ d, (decide ((65 : Int) ≤ (b.toNat : Int))) = d := ⟨_, rfl⟩
  have e0 : decide (65 ≤ b.toNat) = d0 := by rw [← hd0]; rw [decide_eq_decide]; omega
  obtain ⟨d1, hd1⟩ : ∃ d, (decide ((b.toNat : Int) ≤ 90)) = d := ⟨_, rfl⟩
  have e1 : decide (b.toNat ≤ 90) = d1 := by rw [← hd1]; rw [decide_eq_decide]; omega
  obtain ⟨d2, hd2⟩ : ∃ d, (decide ((97 : Int) ≤ (b.toNat : Int))) = d := ⟨_, rfl⟩
  have e2 : decide (97 ≤ b.toNat) = d2 := by rw [← hd2]; rw [decide_eq_decide]; omega
  obtain ⟨d3, hd3⟩ : ∃ d, (decide ((b.toNat : Int) ≤ 122)) = d := ⟨_, rfl⟩
  have e3 : decide (b.toNat ≤ 122) = d3 := by rw [← hd3]; rw [decide_eq_decide]; omega
  have HV : Hid (letterB b = ((d0 && d1) || (d2 && d3))) := by show _ = _; unfold letterB; rw [e0, e1, e2, e3]
  clear e0 e1 e2 e3
  cases d0 <;> cases d1 <;> cases d2 <;> cases d3
  all_goals
    go_enter Tryz.func66, Tryz.ntmps66
    go_wp2
    go_ret
    exact ⟨by rw [HV.out]; rfl, rfl⟩

theorem isDigit_calls (b : UInt8) (w : World) : Calls Tryz.prog 69 #[.int .u8 (b.toNat : Int)] w fun e w' => e = .returned (.bool (digitB b)) ∧ w = w' := by
  obtain ⟨d0, hd0⟩ : ∃ d, (decide ((48 : Int) ≤ (b.toNat : Int))) = d := ⟨_, rfl⟩
  have e0 : decide (48 ≤ b.toNat) = d0 := by rw [← hd0]; rw [decide_eq_decide]; omega
  obtain ⟨d1, hd1⟩ : ∃ d, (decide ((b.toNat : Int) ≤ 57)) = d := ⟨_, rfl⟩
  have e1 : decide (b.toNat ≤ 57) = d1 := by rw [← hd1]; rw [decide_eq_decide]; omega
  have HV : Hid (digitB b = (d0 && d1)) := by show _ = _; unfold digitB; rw [e0, e1]
  clear e0 e1
  cases d0 <;> cases d1
  all_goals
    go_enter Tryz.func69, Tryz.ntmps69
    go_wp2
    go_ret
    exact ⟨by rw [HV.out]; rfl, rfl⟩

set_option maxHeartbeats 1000000 in
theorem isWordByte_calls (b : UInt8) (w : World) : Calls Tryz.prog 68 #[.int .u8 (b.toNat : Int)] w fun e w' => e = .returned (.bool (wordB b)) ∧ w = w' := by
  obtain ⟨d0, hd0⟩ : ∃ d, letterB b = d := ⟨_, rfl⟩
  obtain ⟨d1, hd1⟩ : ∃ d, digitB b = d := ⟨_, rfl⟩
  obtain ⟨d2, hd2⟩ : ∃ d, ((b.toNat : Int) == 95) = d := ⟨_, rfl⟩
  have e2 : decide (b.toNat = 95) = d2 := by rw [← hd2]; rw [Bool.eq_iff_iff]; simp; omega
  obtain ⟨d3, hd3⟩ : ∃ d, ((b.toNat : Int) == 39) = d := ⟨_, rfl⟩
  have e3 : decide (b.toNat = 39) = d3 := by rw [← hd3]; rw [Bool.eq_iff_iff]; simp; omega
  have HV : Hid (wordB b = (((d0 || d1) || d2) || d3)) := by show _ = _; unfold wordB; rw [hd0, hd1, e2, e3]
  have c0 := isLetter_calls b
  have c1 := isDigit_calls b
  rw [hd0] at c0
  rw [hd1] at c1
  have C0 : Hid _ := c0
  have C1 : Hid _ := c1
  clear e2 e3 c0 c1 hd0 hd1
  cases d0 <;> cases d1 <;> cases d2 <;> cases d3
  all_goals
    go_enter Tryz.func68, Tryz.ntmps68
    go_wp2_with (first | (go_at_call 66; refine (C0.out _).mono ?_; rintro e w' ⟨rfl, rfl⟩) | (go_at_call 69; refine (C1.out _).mono ?_; rintro e w' ⟨rfl, rfl⟩))
    go_ret
    exact ⟨by rw [HV.out]; rfl, rfl⟩

theorem idx_contains (l : List UInt8) (b : UInt8) : decide (0 ≤ Lib.indexByte l b) = l.contains b := by
  induction l with
  | nil => rfl
  | cons x r ih =>
    have hge := Lib.indexByte_ge r b
    unfold Lib.indexByte
    by_cases h : x = b
    · subst h; simp
    · have h1 : (x == b) = false := by simpa using h
      have h1' : (b == x) = false := by simpa using fun e => h e.symm
      rw [List.contains_cons, h1', Bool.false_or, ← ih]
      simp only [h1, Bool.false_eq_true, if_false]
      by_cases h2 : Lib.indexByte r b = -1
      · simp [h2]
      · have h3 : (Lib.indexByte r b == -1) = false := by simpa using h2
        rw [h3]
        simp only [Bool.false_eq_true, if_false]
        rw [decide_eq_decide]
        omega

theorem isSign_calls (b : UInt8) (w : World) : Calls Tryz.prog 71 #[.int .u8 (b.toNat : Int)] w fun e w' => e = .returned (.bool (signB b)) ∧ w = w' := by
  have hb : (b.toNat : Int).toNat.toUInt8 = b := by simp
  have hc := idx_contains signL b
  have H : Hid (decide (0 ≤ Lib.indexByte signL b) = signB b) := hc
  clear hc
  have HC : Hid (∀ w, Calls Tryz.prog 81 #[.string ⟨#[40, 41, 92, 46, 44, 59, 58, 61, 62, 60, 91, 93, 123, 125, 33, 63, 64]⟩, .int .u8 (b.toNat : Int)] w fun e w' => e = .returned (.int .i64 (Lib.indexByte signL b)) ∧ w = w') := by
    intro w
    refine (Tryz.strings_IndexByte _ _ _).mono ?_
    rintro e w' ⟨rfl, rfl⟩
    rw [hb]
    exact ⟨rfl, rfl⟩
  go_enter Tryz.func71, Tryz.ntmps71
  go_wp2_with (go_at_call 81; refine (HC.out _).mono ?_; rintro e w' ⟨rfl, rfl⟩)
  go_ret
  exact ⟨by rw [← H.out]; rfl, rfl⟩

/-- Is a byte among some? -/
theorem among_calls (b : UInt8) (s : ByteArray) (hs : s.size ≤ 100) (w : World) : Calls Tryz.prog 48 #[.int .u8 (b.toNat : Int), .string s] w fun e w' => e = .returned (.bool (s.data.toList.contains b)) ∧ w = w' := by
  go_enter Tryz.func48, Tryz.ntmps48
  go_wp2
  go_loopw [5] (fun i wr => ∃ k : Nat, k ≤ s.size ∧ i = .int .i64 k ∧ w = wr ∧ Hid (s.data.toList.contains b = (s.data.toList.drop k).contains b))
    (fun i _ => s.size - (intOf i).toNat)
  case atStart => exact ⟨0, Nat.zero_le _, rfl, rfl, rfl⟩
  case round =>
    obtain ⟨k, hk, rfl, rfl, hall⟩ := hrel
    by_cases hlt : k < s.size
    · have hd := drop_cons s k hlt
      by_cases hb : s[k] = b
      · have HR : Hid (s.data.toList.contains b = true) := by
          show _ = _
          rw [hall.out, hd, hb]; simp
        have hbe : ((s[k].toNat : Int) == (b.toNat : Int)) = true := by rw [hb]; simp
        clear hd hall
        go_wp2
        go_ret
        exact ⟨by rw [HR.out]; rfl, rfl⟩
      · have HR : Hid (s.data.toList.contains b = (s.data.toList.drop (k + 1)).contains b) := by
          show _ = _
          have hb' : (b == s[k]) = false := by simpa using fun e => hb e.symm
          rw [hall.out, hd, List.contains_cons, hb']; simp
        have hbe : ((s[k].toNat : Int) == (b.toNat : Int)) = false := by
          have : ¬ s[k].toNat = b.toNat := fun e => hb (UInt8.toNat_inj.1 e)
          simp; omega
        clear hd hall
        go_wp2
        exact ⟨⟨k + 1, by omega, by go_num, trivial, HR⟩, by simp [intOf]; omega⟩
    · obtain rfl : k = s.size := by omega
      have HR : Hid (s.data.toList.contains b = false) := by
        show _ = _
        rw [hall.out, List.drop_eq_nil_of_le (by simp)]; rfl
      clear hall
      go_wp2
      go_ret
      exact ⟨by rw [HR.out]; rfl, rfl⟩

theorem among_const (b : UInt8) (l : List UInt8) (v : Bool) (h : l.contains b = v) (hl : l.length ≤ 100) (w : World) : Calls Tryz.prog 48 #[.int .u8 (b.toNat : Int), .string ⟨l.toArray⟩] w fun e w' => e = .returned (.bool v) ∧ w = w' := by
  have := among_calls b ⟨l.toArray⟩ (by simpa [ByteArray.size] using hl) w
  simp only [h] at this
  exact this

theorem Letter_calls (b : UInt8) (w : World) : Calls Tryz.prog 49 #[.int .u8 (b.toNat : Int)] w fun e w' => e = .returned (.bool (letterB b)) ∧ w = w' := by
  have HC : Hid (∀ w, Calls Tryz.prog 48 #[.int .u8 (b.toNat : Int), .string ⟨#[97, 98, 99, 100, 101, 102, 103, 104, 105, 106, 107, 108, 109, 110, 111, 112, 113, 114, 115, 116, 117, 118, 119, 120, 121, 122, 65, 66, 67, 68, 69, 70, 71, 72, 73, 74, 75, 76, 77, 78, 79, 80, 81, 82, 83, 84, 85, 86, 87, 88, 89, 90]⟩] w fun e w' => e = .returned (.bool (letterB b)) ∧ w = w') := fun w => among_const b lettersL _ (letters_is b) (by decide) w
  go_enter Tryz.func49, Tryz.ntmps49
  go_wp2_with (go_at_call 48; refine (HC.out _).mono ?_; rintro e w' ⟨rfl, rfl⟩)
  go_ret
  exact ⟨rfl, rfl⟩

theorem Digit_calls (b : UInt8) (w : World) : Calls Tryz.prog 51 #[.int .u8 (b.toNat : Int)] w fun e w' => e = .returned (.bool (digitB b)) ∧ w = w' := by
  have HC : Hid (∀ w, Calls Tryz.prog 48 #[.int .u8 (b.toNat : Int), .string ⟨#[48, 49, 50, 51, 52, 53, 54, 55, 56, 57]⟩] w fun e w' => e = .returned (.bool (digitB b)) ∧ w = w') := fun w => among_const b digitsL _ (digits_is b) (by decide) w
  go_enter Tryz.func51, Tryz.ntmps51
  go_wp2_with (go_at_call 48; refine (HC.out _).mono ?_; rintro e w' ⟨rfl, rfl⟩)
  go_ret
  exact ⟨rfl, rfl⟩

theorem Inner_calls (b : UInt8) (w : World) : Calls Tryz.prog 50 #[.int .u8 (b.toNat : Int)] w fun e w' => e = .returned (.bool (wordB b)) ∧ w = w' := by
  obtain ⟨d0, hd0⟩ : ∃ d, letterB b = d := ⟨_, rfl⟩
  obtain ⟨d1, hd1⟩ : ∃ d, innerL.contains b = d := ⟨_, rfl⟩
  have HV : Hid (wordB b = (d0 || d1)) := by show _ = _; rw [← inner_is b, hd0, hd1]
  have c0 := Letter_calls b
  rw [hd0] at c0
  have C0 : Hid _ := c0
  have C1 : Hid (∀ w, Calls Tryz.prog 48 #[.int .u8 (b.toNat : Int), .string ⟨#[48, 49, 50, 51, 52, 53, 54, 55, 56, 57, 95, 39]⟩] w fun e w' => e = .returned (.bool d1) ∧ w = w') := fun w => among_const b innerL _ hd1 (by decide) w
  clear c0 hd0 hd1
  cases d0 <;> cases d1
  all_goals
    go_enter Tryz.func50, Tryz.ntmps50
    go_wp2_with (first | (go_at_call 49; refine (C0.out _).mono ?_; rintro e w' ⟨rfl, rfl⟩) | (go_at_call 48; refine (C1.out _).mono ?_; rintro e w' ⟨rfl, rfl⟩))
    go_ret
    exact ⟨by rw [HV.out]; rfl, rfl⟩

end Go.Proofs.YtdihplmlbfggjaaGreatDoor.Lx

/-
  The contracts of what cuts one token: lex.span, remark, gap, front, check, head, fresh, start; strings.Clone; the document's Head.
-/
namespace Go.Proofs.YtdihplmlbfggjaaGreatDoor.Lx
open Go Go.RowKit Go.Shelf Plain Lex

set_option maxHeartbeats 400000 in
theorem span58_calls (s : ByteArray) (hs : s.size ≤ 281474976710656) (w : World) : Calls Tryz.prog 67 #[.string s, .func (.func 68) #[] #[]] w fun e w' => e = .returned (.int .i64 ((s.data.toList.takeWhile wordB).length : Int)) ∧ w = w' := by
  go_enter Tryz.func67, Tryz.ntmps67
  go_wp2
  go_loopw [5] (fun i wr => ∃ k : Nat, k ≤ s.size ∧ i = .int .i64 k ∧ w = wr ∧ Hid ((s.data.toList.takeWhile wordB).length = k + ((s.data.toList.drop k).takeWhile wordB).length))
    (fun i _ => s.size - (intOf i).toNat)
  case atStart => exact ⟨0, Nat.zero_le _, rfl, rfl, by show _ = _; simp⟩
  case round =>
    obtain ⟨k, hk, rfl, rfl, hall⟩ := hrel
    by_cases hlt : k < s.size
    · obtain ⟨d, hd⟩ : ∃ d, wordB s[k] = d := ⟨_, rfl⟩
      have c0 := isWordByte_calls s[k]
      rw [hd] at c0
      have C0 : Hid _ := c0
      cases d with
      | true =>
        have HR : Hid ((s.data.toList.takeWhile wordB).length = k + 1 + ((s.data.toList.drop (k + 1)).takeWhile wordB).length) := by
          show _ = _
          rw [hall.out, tw_more wordB s k hlt hd]; omega
        clear hall hd c0
        go_wp2_with (refine (C0.out _).mono ?_; rintro e w' ⟨rfl, rfl⟩)
        exact ⟨⟨k + 1, by omega, by go_num, trivial, HR⟩, by simp [intOf]; omega⟩
      | false =>
        have HR : Hid (((s.data.toList.takeWhile wordB).length : Int) = (k : Int)) := by
          show _ = _
          rw [hall.out, tw_stop wordB s k hlt hd]; rfl
        clear hall hd c0
        go_wp2_with (refine (C0.out _).mono ?_; rintro e w' ⟨rfl, rfl⟩)
        go_ret
        exact ⟨by rw [HR.out]; rfl, rfl⟩
    · obtain rfl : k = s.size := by omega
      have HR : Hid (((s.data.toList.takeWhile wordB).length : Int) = (s.size : Int)) := by
        show _ = _
        rw [hall.out, tw_end]; rfl
      clear hall
      go_wp2
      go_ret
      exact ⟨by rw [HR.out]; rfl, rfl⟩

set_option maxHeartbeats 400000 in
theorem span59_calls (s : ByteArray) (hs : s.size ≤ 281474976710656) (w : World) : Calls Tryz.prog 67 #[.string s, .func (.func 69) #[] #[]] w fun e w' => e = .returned (.int .i64 ((s.data.toList.takeWhile digitB).length : Int)) ∧ w = w' := by
  go_enter Tryz.func67, Tryz.ntmps67
  go_wp2
  go_loopw [5] (fun i wr => ∃ k : Nat, k ≤ s.size ∧ i = .int .i64 k ∧ w = wr ∧ Hid ((s.data.toList.takeWhile digitB).length = k + ((s.data.toList.drop k).takeWhile digitB).length))
    (fun i _ => s.size - (intOf i).toNat)
  case atStart => exact ⟨0, Nat.zero_le _, rfl, rfl, by show _ = _; simp⟩
  case round =>
    obtain ⟨k, hk, rfl, rfl, hall⟩ := hrel
    by_cases hlt : k < s.size
    · obtain ⟨d, hd⟩ : ∃ d, digitB s[k] = d := ⟨_, rfl⟩
      have c0 := isDigit_calls s[k]
      rw [hd] at c0
      have C0 : Hid _ := c0
      cases d with
      | true =>
        have HR : Hid ((s.data.toList.takeWhile digitB).length = k + 1 + ((s.data.toList.drop (k + 1)).takeWhile digitB).length) := by
          show _ = _
          rw [hall.out, tw_more digitB s k hlt hd]; omega
        clear hall hd c0
        go_wp2_with (refine (C0.out _).mono ?_; rintro e w' ⟨rfl, rfl⟩)
        exact ⟨⟨k + 1, by omega, by go_num, trivial, HR⟩, by simp [intOf]; omega⟩
      | false =>
        have HR : Hid (((s.data.toList.takeWhile digitB).length : Int) = (k : Int)) := by
          show _ = _
          rw [hall.out, tw_stop digitB s k hlt hd]; rfl
        clear hall hd c0
        go_wp2_with (refine (C0.out _).mono ?_; rintro e w' ⟨rfl, rfl⟩)
        go_ret
        exact ⟨by rw [HR.out]; rfl, rfl⟩
    · obtain rfl : k = s.size := by omega
      have HR : Hid (((s.data.toList.takeWhile digitB).length : Int) = (s.size : Int)) := by
        show _ = _
        rw [hall.out, tw_end]; rfl
      clear hall
      go_wp2
      go_ret
      exact ⟨by rw [HR.out]; rfl, rfl⟩

theorem ext_list (s : ByteArray) (k : Nat) : (s.extract k s.size).data.toList = s.data.toList.drop k := Lib.extract_to_end s k

end Go.Proofs.YtdihplmlbfggjaaGreatDoor.Lx

/-
  The contracts of lex.front, check, head, fresh, start, isJust; strings.Clone; the document's Head.
-/
namespace Go.Proofs.YtdihplmlbfggjaaGreatDoor.Lx
open Go Go.RowKit Go.Shelf Plain Lex

theorem pref_take (l : List UInt8) : Lib.hasPrefix l [45, 62] = decide (l.take 2 = [45, 62]) := by
  rw [Bool.eq_iff_iff, decide_eq_true_eq]
  unfold Lib.hasPrefix
  rw [List.isPrefixOf_iff_prefix]
  constructor
  · rintro ⟨t, rfl⟩; rfl
  · intro h; exact ⟨l.drop 2, by rw [← h]; exact List.take_append_drop 2 l⟩

theorem empty_of (s : ByteArray) (h : s.size = 0) : s = ⟨#[]⟩ := by
  apply ByteArray.ext
  exact Array.eq_empty_of_size_eq_zero h

set_option maxHeartbeats 1600000 in
theorem front_calls (s : ByteArray) (hs : s.size ≤ 281474976710656) (w : World) : Calls Tryz.prog 59 #[.string s] w fun e w' => e = .returned (.tuple #[.int .i64 ((front s.data.toList).1 : Int), .int .i64 ((front s.data.toList).2 : Int)]) ∧ w = w' := by
  by_cases h0 : s.size = 0
  · obtain rfl := empty_of s h0
    go_enter Tryz.func59, Tryz.ntmps59
    go_wp2
    go_ret2
    exact ⟨rfl, rfl⟩
  · have hpos : 0 < s.size := by omega
    have hL := drop_cons s 0 hpos
    simp only [List.drop_zero] at hL
    obtain ⟨d0, hd0⟩ : ∃ d, letterB s[0] = d := ⟨_, rfl⟩
    obtain ⟨d1, hd1⟩ : ∃ d, digitB s[0] = d := ⟨_, rfl⟩
    obtain ⟨d2, hd2⟩ : ∃ d, decide (s.data.toList.take 2 = [45, 62]) = d := ⟨_, rfl⟩
    obtain ⟨d3, hd3⟩ : ∃ d, signB s[0] = d := ⟨_, rfl⟩
    have hF : front s.data.toList = if d0 = true then (1, (s.data.toList.takeWhile wordB).length) else if d1 = true then (2, (s.data.toList.takeWhile digitB).length) else if d2 = true then (3, 2) else if d3 = true then (3, 1) else (0, 1) := by
      unfold front
      rw [hL]
      simp only
      rw [← hL, hd0, hd1, hd3]
      subst hd2
      simp only [decide_eq_true_eq]
    have c0 := isLetter_calls s[0]
    have c1 := isDigit_calls s[0]
    have c3 := isSign_calls s[0]
    have c2 : ∀ w, Calls Tryz.prog 70 #[.string s, .string ⟨#[45, 62]⟩] w fun e w' => e = .returned (.bool d2) ∧ w = w' := by
      intro w
      refine (Tryz.strings_HasPrefix _ _ _).mono ?_
      rintro e w' ⟨rfl, rfl⟩
      refine ⟨?_, rfl⟩
      rw [← hd2, ← pref_take]
    rw [hd0] at c0
    rw [hd1] at c1
    rw [hd3] at c3
    have HF : Hid _ := hF
    have C0 : Hid _ := c0
    have C1 : Hid _ := c1
    have C2 : Hid _ := c2
    have C3 : Hid _ := c3
    have hne : s.toList.isEmpty = false := by
      rw [Lib.toList_data, hL]; rfl
    clear hd0 hd1 hd2 hd3 hF c0 c1 c2 c3 hL
    cases d0 with
    | true =>
      go_enter Tryz.func59, Tryz.ntmps59
      go_wp2_with (first | (go_at_call 66; refine (C0.out _).mono ?_; rintro e w' ⟨rfl, rfl⟩) | (go_at_call 69; refine (C1.out _).mono ?_; rintro e w' ⟨rfl, rfl⟩) | (go_at_call 70; refine (C2.out _).mono ?_; rintro e w' ⟨rfl, rfl⟩) | (go_at_call 71; refine (C3.out _).mono ?_; rintro e w' ⟨rfl, rfl⟩) | (go_at_call 67; refine (span58_calls s hs _).mono ?_; rintro e w' ⟨rfl, rfl⟩))
      go_ret2
      exact ⟨by rw [HF.out]; rfl, rfl⟩
    | false =>
      cases d1 with
      | true =>
        go_enter Tryz.func59, Tryz.ntmps59
        go_wp2_with (first | (go_at_call 66; refine (C0.out _).mono ?_; rintro e w' ⟨rfl, rfl⟩) | (go_at_call 69; refine (C1.out _).mono ?_; rintro e w' ⟨rfl, rfl⟩) | (go_at_call 70; refine (C2.out _).mono ?_; rintro e w' ⟨rfl, rfl⟩) | (go_at_call 71; refine (C3.out _).mono ?_; rintro e w' ⟨rfl, rfl⟩) | (go_at_call 67; refine (span59_calls s hs _).mono ?_; rintro e w' ⟨rfl, rfl⟩))
        go_ret2
        exact ⟨by rw [HF.out]; rfl, rfl⟩
      | false =>
        cases d2 <;> cases d3
        all_goals
          go_enter Tryz.func59, Tryz.ntmps59
          go_wp2_with (first | (go_at_call 66; refine (C0.out _).mono ?_; rintro e w' ⟨rfl, rfl⟩) | (go_at_call 69; refine (C1.out _).mono ?_; rintro e w' ⟨rfl, rfl⟩) | (go_at_call 70; refine (C2.out _).mono ?_; rintro e w' ⟨rfl, rfl⟩) | (go_at_call 71; refine (C3.out _).mono ?_; rintro e w' ⟨rfl, rfl⟩) | (go_at_call 67; refine (span59_calls s hs _).mono ?_; rintro e w' ⟨rfl, rfl⟩))
          go_ret2
          exact ⟨by rw [HF.out]; rfl, rfl⟩

theorem check_calls (kd n : Nat) (w : World) : Calls Tryz.prog 60 #[.int .i64 (kd : Int), .int .i64 (n : Int)] w fun e w' => e = .returned (.int .i64 (check kd n : Int)) ∧ w = w' := by
  obtain ⟨d0, hd0⟩ : ∃ d, ((kd : Int) == 0) = d := ⟨_, rfl⟩
  obtain ⟨d1, hd1⟩ : ∃ d, ((kd : Int) == 1) = d := ⟨_, rfl⟩
  obtain ⟨d2, hd2⟩ : ∃ d, ((kd : Int) == 2) = d := ⟨_, rfl⟩
  obtain ⟨d3, hd3⟩ : ∃ d, decide ((30 : Int) < (n : Int)) = d := ⟨_, rfl⟩
  obtain ⟨d4, hd4⟩ : ∃ d, decide ((9 : Int) < (n : Int)) = d := ⟨_, rfl⟩
  have hC : check kd n = if d0 = true then 3 else if (d1 && d3 || d2 && d4) = true then 2 else 0 := by
    subst hd0; subst hd1; subst hd2; subst hd3; subst hd4
    unfold check
    have e0 : (((kd : Int) == 0) = true) ↔ kd = 0 := by simp
    have e1 : (((kd : Int) == 1) = true) ↔ kd = 1 := by simp; omega
    have e2 : (((kd : Int) == 2) = true) ↔ kd = 2 := by simp; omega
    have e3 : (decide ((30 : Int) < (n : Int)) = true) ↔ 30 < n := by simp; omega
    have e4 : (decide ((9 : Int) < (n : Int)) = true) ↔ 9 < n := by simp; omega
    simp only [Bool.or_eq_true, Bool.and_eq_true, e0, e1, e2, e3, e4]
  have HC : Hid _ := hC
  clear hC
  cases d0 <;> cases d1 <;> cases d2 <;> cases d3 <;> cases d4
  all_goals
    go_enter Tryz.func60, Tryz.ntmps60
    go_wp2
    go_ret
    exact ⟨by rw [HC.out]; rfl, rfl⟩

set_option maxHeartbeats 400000 in
theorem clone_calls (s : ByteArray) (hs : s.size ≤ 281474976710656) (w : World) :
    Calls Tryz.prog 31 #[.string s] w fun e w' => e = .returned (.string s) ∧ Below w.heap.size w w' := by
  go_enter Tryz.func31, Tryz.ntmps31
  go_wp2_with (go_at_call 42; refine (Tryz.stringslite_Clone _ _ hs).mono ?_; rintro e w' ⟨rfl, hb⟩)
  go_ret
  exact ⟨rfl, hb⟩

theorem headB_size (s : ByteArray) : (headB s).size ≤ 10 := by
  unfold headB; rw [ByteArray.size_extract]; omega

theorem headB_all (s : ByteArray) (h : s.size ≤ 10) : headB s = s := by
  unfold headB
  have : (min (s.size : Int) 10).toNat = s.size := by omega
  rw [this]
  exact ByteArray.extract_zero_size
theorem headB_ten (s : ByteArray) (h : 10 < s.size) : headB s = s.extract 0 10 := by
  unfold headB
  have : (min (s.size : Int) 10).toNat = 10 := by omega
  rw [this]

theorem refHead_calls (s : ByteArray) (hs : s.size ≤ 281474976710656) (w : World) :
    Calls Tryz.prog 53 #[.string s] w fun e w' => e = .returned (.string (headB s)) ∧ w = w' := by
  by_cases h : 10 < s.size
  · have HH : Hid (headB s = s.extract 0 10) := headB_ten s h
    go_enter Tryz.func53, Tryz.ntmps53
    go_wp2
    go_ret
    exact ⟨by rw [HH.out]; rfl, rfl⟩
  · have HH : Hid (headB s = s) := headB_all s (by omega)
    go_enter Tryz.func53, Tryz.ntmps53
    go_wp2
    go_ret
    exact ⟨by rw [HH.out]; rfl, rfl⟩

/-- A token as a value. -/
def tokV (kd : Int) (s : ByteArray) (p : Int) : Value := .agg #[.int .i64 kd, .string s, .int .i64 p]

end Go.Proofs.YtdihplmlbfggjaaGreatDoor.Lx

