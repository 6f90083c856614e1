/-
  The contracts of the functions that ask of one byte, of both sides: lex.isLetter, isDigit, isWordByte, isBlank, isSign; the document's among, Letter, Digit, Inner.
-/
import Derived.Test.YtdihplmlbfggjaaDoorLxToks
import Derived.Test.YtdihplmlbfggjaaDoorLxRefOf
namespace Go.Proofs.YtdihplmlbfggjaaDoor.Lx
open Go Go.RowKit Go.Shelf Plain Lex

theorem isLetter_calls (b : UInt8) (w : World) : Calls Tryd.prog 70 #[.int .u8 (b.toNat : Int)] w fun e w' => e = .returned (.bool (letterB b)) ∧ w = w' := by
  obtain ⟨d0, hd0⟩ : ∃ d, (decide ((65 : Int) ≤ (b.toNat : Int))) = d := ⟨_, rfl⟩
  have e0 : decide (65 ≤ b.toNat) = d0 := by rw [← hd0]; rw [decide_eq_decide]; omega
  obtain ⟨d1, hd1⟩ : ∃ d, (decide ((b.toNat : Int) ≤ 90)) = d := ⟨_, rfl⟩
  have e1 : decide (b.toNat ≤ 90) = d1 := by rw [← hd1]; rw [decide_eq_decide]; omega
  obtain ⟨d2, hd2⟩ : ∃ d, (decide ((97 : Int) ≤ (b.toNat : Int))) = d := ⟨_, rfl⟩
  have e2 : decide (97 ≤ b.toNat) = d2 := by rw [← hd2]; rw [decide_eq_decide]; omega
  obtain ⟨d3, hd3⟩ : ∃ d, (decide ((b.toNat : Int) ≤ 122)) = d := ⟨_, rfl⟩
  have e3 : decide (b.toNat ≤ 122) = d3 := by rw [← hd3]; rw [decide_eq_decide]; omega
  have HV : Hid (letterB b = ((d0 && d1) || (d2 && d3))) := by show _ = _; unfold letterB; rw [e0, e1, e2, e3]
  clear e0 e1 e2 e3
  cases d0 <;> cases d1 <;> cases d2 <;> cases d3
  all_goals
    go_enter Tryd.func70, Tryd.ntmps70
    go_wp2
    go_ret
    exact ⟨by rw [HV.out]; rfl, rfl⟩

theorem isDigit_calls (b : UInt8) (w : World) : Calls Tryd.prog 73 #[.int .u8 (b.toNat : Int)] w fun e w' => e = .returned (.bool (digitB b)) ∧ w = w' := by
  obtain ⟨d0, hd0⟩ : ∃ d, (decide ((48 : Int) ≤ (b.toNat : Int))) = d := ⟨_, rfl⟩
  have e0 : decide (48 ≤ b.toNat) = d0 := by rw [← hd0]; rw [decide_eq_decide]; omega
  obtain ⟨d1, hd1⟩ : ∃ d, (decide ((b.toNat : Int) ≤ 57)) = d := ⟨_, rfl⟩
  have e1 : decide (b.toNat ≤ 57) = d1 := by rw [← hd1]; rw [decide_eq_decide]; omega
  have HV : Hid (digitB b = (d0 && d1)) := by show _ = _; unfold digitB; rw [e0, e1]
  clear e0 e1
  cases d0 <;> cases d1
  all_goals
    go_enter Tryd.func73, Tryd.ntmps73
    go_wp2
    go_ret
    exact ⟨by rw [HV.out]; rfl, rfl⟩

set_option maxHeartbeats 1000000 in
theorem isWordByte_calls (b : UInt8) (w : World) : Calls Tryd.prog 72 #[.int .u8 (b.toNat : Int)] w fun e w' => e = .returned (.bool (wordB b)) ∧ w = w' := by
  obtain ⟨d0, hd0⟩ : ∃ d, letterB b = d := ⟨_, rfl⟩
  obtain ⟨d1, hd1⟩ : ∃ d, digitB b = d := ⟨_, rfl⟩
  obtain ⟨d2, hd2⟩ : ∃ d, ((b.toNat : Int) == 95) = d := ⟨_, rfl⟩
  have e2 : decide (b.toNat = 95) = d2 := by rw [← hd2]; rw [Bool.eq_iff_iff]; simp; omega
  obtain ⟨d3, hd3⟩ : ∃ d, ((b.toNat : Int) == 39) = d := ⟨_, rfl⟩
  have e3 : decide (b.toNat = 39) = d3 := by rw [← hd3]; rw [Bool.eq_iff_iff]; simp; omega
  have HV : Hid (wordB b = (((d0 || d1) || d2) || d3)) := by show _ = _; unfold wordB; rw [hd0, hd1, e2, e3]
  have c0 := isLetter_calls b
  have c1 := isDigit_calls b
  rw [hd0] at c0
  rw [hd1] at c1
  have C0 : Hid _ := c0
  have C1 : Hid _ := c1
  clear e2 e3 c0 c1 hd0 hd1
  cases d0 <;> cases d1 <;> cases d2 <;> cases d3
  all_goals
    go_enter Tryd.func72, Tryd.ntmps72
    go_wp2_with (first | (go_at_call 70; refine (C0.out _).mono ?_; rintro e w' ⟨rfl, rfl⟩) | (go_at_call 73; refine (C1.out _).mono ?_; rintro e w' ⟨rfl, rfl⟩))
    go_ret
    exact ⟨by rw [HV.out]; rfl, rfl⟩

theorem idx_contains (l : List UInt8) (b : UInt8) : decide (0 ≤ Lib.indexByte l b) = l.contains b := by
  induction l with
  | nil => rfl
  | cons x r ih =>
    have hge := Lib.indexByte_ge r b
    unfold Lib.indexByte
    by_cases h : x = b
    · subst h; simp
    · have h1 : (x == b) = false := by simpa using h
      have h1' : (b == x) = false := by simpa using fun e => h e.symm
      rw [List.contains_cons, h1', Bool.false_or, ← ih]
      simp only [h1, Bool.false_eq_true, if_false]
      by_cases h2 : Lib.indexByte r b = -1
      · simp [h2]
      · have h3 : (Lib.indexByte r b == -1) = false := by simpa using h2
        rw [h3]
        simp only [Bool.false_eq_true, if_false]
        rw [decide_eq_decide]
        omega

theorem isSign_calls (b : UInt8) (w : World) : Calls Tryd.prog 75 #[.int .u8 (b.toNat : Int)] w fun e w' => e = .returned (.bool (signB b)) ∧ w = w' := by
  have hb : (b.toNat : Int).toNat.toUInt8 = b := by simp
  have hc := idx_contains signL b
  have H : Hid (decide (0 ≤ Lib.indexByte signL b) = signB b) := hc
  clear hc
  have HC : Hid (∀ w, Calls Tryd.prog 85 #[.string ⟨#[40, 41, 92, 46, 44, 59, 58, 61, 62, 60, 91, 93, 123, 125, 33, 63, 64]⟩, .int .u8 (b.toNat : Int)] w fun e w' => e = .returned (.int .i64 (Lib.indexByte signL b)) ∧ w = w') := by
    intro w
    refine (Tryd.strings_IndexByte _ _ _).mono ?_
    rintro e w' ⟨rfl, rfl⟩
    rw [hb]
    exact ⟨rfl, rfl⟩
  go_enter Tryd.func75, Tryd.ntmps75
  go_wp2_with (go_at_call 85; refine (HC.out _).mono ?_; rintro e w' ⟨rfl, rfl⟩)
  go_ret
  exact ⟨by rw [← H.out]; rfl, rfl⟩

/-- Is a byte among some? -/
theorem among_calls (b : UInt8) (s : ByteArray) (hs : s.size ≤ 100) (w : World) : Calls Tryd.prog 58 #[.int .u8 (b.toNat : Int), .string s] w fun e w' => e = .returned (.bool (s.data.toList.contains b)) ∧ w = w' := by
  go_enter Tryd.func58, Tryd.ntmps58
  go_wp2
  go_loopw [5] (fun i wr => ∃ k : Nat, k ≤ s.size ∧ i = .int .i64 k ∧ w = wr ∧ Hid (s.data.toList.contains b = (s.data.toList.drop k).contains b))
    (fun i _ => s.size - (intOf i).toNat)
  case atStart => exact ⟨0, Nat.zero_le _, rfl, rfl, rfl⟩
  case round =>
    obtain ⟨k, hk, rfl, rfl, hall⟩ := hrel
    by_cases hlt : k < s.size
    · have hd := drop_cons s k hlt
      by_cases hb : s[k] = b
      · have HR : Hid (s.data.toList.contains b = true) := by
          show _ = _
          rw [hall.out, hd, hb]; simp
        have hbe : ((s[k].toNat : Int) == (b.toNat : Int)) = true := by rw [hb]; simp
        clear hd hall
        go_wp2
        go_ret
        exact ⟨by rw [HR.out]; rfl, rfl⟩
      · have HR : Hid (s.data.toList.contains b = (s.data.toList.drop (k + 1)).contains b) := by
          show _ = _
          have hb' : (b == s[k]) = false := by simpa using fun e => hb e.symm
          rw [hall.out, hd, List.contains_cons, hb']; simp
        have hbe : ((s[k].toNat : Int) == (b.toNat : Int)) = false := by
          have : ¬ s[k].toNat = b.toNat := fun e => hb (UInt8.toNat_inj.1 e)
          simp; omega
        clear hd hall
        go_wp2
        exact ⟨⟨k + 1, by omega, by go_num, trivial, HR⟩, by simp [intOf]; omega⟩
    · obtain rfl : k = s.size := by omega
      have HR : Hid (s.data.toList.contains b = false) := by
        show _ = _
        rw [hall.out, List.drop_eq_nil_of_le (by simp)]; rfl
      clear hall
      go_wp2
      go_ret
      exact ⟨by rw [HR.out]; rfl, rfl⟩

theorem among_const (b : UInt8) (l : List UInt8) (v : Bool) (h : l.contains b = v) (hl : l.length ≤ 100) (w : World) : Calls Tryd.prog 58 #[.int .u8 (b.toNat : Int), .string ⟨l.toArray⟩] w fun e w' => e = .returned (.bool v) ∧ w = w' := by
  have := among_calls b ⟨l.toArray⟩ (by simpa [ByteArray.size] using hl) w
  simp only [h] at this
  exact this

theorem Letter_calls (b : UInt8) (w : World) : Calls Tryd.prog 59 #[.int .u8 (b.toNat : Int)] w fun e w' => e = .returned (.bool (letterB b)) ∧ w = w' := by
  have HC : Hid (∀ w, Calls Tryd.prog 58 #[.int .u8 (b.toNat : Int), .string ⟨#[97, 98, 99, 100, 101, 102, 103, 104, 105, 106, 107, 108, 109, 110, 111, 112, 113, 114, 115, 116, 117, 118, 119, 120, 121, 122, 65, 66, 67, 68, 69, 70, 71, 72, 73, 74, 75, 76, 77, 78, 79, 80, 81, 82, 83, 84, 85, 86, 87, 88, 89, 90]⟩] w fun e w' => e = .returned (.bool (letterB b)) ∧ w = w') := fun w => among_const b lettersL _ (letters_is b) (by decide) w
  go_enter Tryd.func59, Tryd.ntmps59
  go_wp2_with (go_at_call 58; refine (HC.out _).mono ?_; rintro e w' ⟨rfl, rfl⟩)
  go_ret
  exact ⟨rfl, rfl⟩

theorem Digit_calls (b : UInt8) (w : World) : Calls Tryd.prog 61 #[.int .u8 (b.toNat : Int)] w fun e w' => e = .returned (.bool (digitB b)) ∧ w = w' := by
  have HC : Hid (∀ w, Calls Tryd.prog 58 #[.int .u8 (b.toNat : Int), .string ⟨#[48, 49, 50, 51, 52, 53, 54, 55, 56, 57]⟩] w fun e w' => e = .returned (.bool (digitB b)) ∧ w = w') := fun w => among_const b digitsL _ (digits_is b) (by decide) w
  go_enter Tryd.func61, Tryd.ntmps61
  go_wp2_with (go_at_call 58; refine (HC.out _).mono ?_; rintro e w' ⟨rfl, rfl⟩)
  go_ret
  exact ⟨rfl, rfl⟩

theorem Inner_calls (b : UInt8) (w : World) : Calls Tryd.prog 60 #[.int .u8 (b.toNat : Int)] w fun e w' => e = .returned (.bool (wordB b)) ∧ w = w' := by
  obtain ⟨d0, hd0⟩ : ∃ d, letterB b = d := ⟨_, rfl⟩
  obtain ⟨d1, hd1⟩ : ∃ d, innerL.contains b = d := ⟨_, rfl⟩
  have HV : Hid (wordB b = (d0 || d1)) := by show _ = _; rw [← inner_is b, hd0, hd1]
  have c0 := Letter_calls b
  rw [hd0] at c0
  have C0 : Hid _ := c0
  have C1 : Hid (∀ w, Calls Tryd.prog 58 #[.int .u8 (b.toNat : Int), .string ⟨#[48, 49, 50, 51, 52, 53, 54, 55, 56, 57, 95, 39]⟩] w fun e w' => e = .returned (.bool d1) ∧ w = w') := fun w => among_const b innerL _ hd1 (by decide) w
  clear c0 hd0 hd1
  cases d0 <;> cases d1
  all_goals
    go_enter Tryd.func60, Tryd.ntmps60
    go_wp2_with (first | (go_at_call 59; refine (C0.out _).mono ?_; rintro e w' ⟨rfl, rfl⟩) | (go_at_call 58; refine (C1.out _).mono ?_; rintro e w' ⟨rfl, rfl⟩))
    go_ret
    exact ⟨by rw [HV.out]; rfl, rfl⟩

end Go.Proofs.YtdihplmlbfggjaaDoor.Lx
