/-
  The contracts of lex.front, check, head, fresh, start, isJust; strings.Clone; the document's Head.
-/
import Derived.Test.YtainjagbcbjnbaaCut
namespace Go.Proofs.Ytainjagbcbjnbaa
open Go Go.RowKit Go.Shelf Plain Lex

theorem pref_take (l : List UInt8) : Lib.hasPrefix l [45, 62] = decide (l.take 2 = [45, 62]) := by
  rw [Bool.eq_iff_iff, decide_eq_true_eq]
  unfold Lib.hasPrefix
  rw [List.isPrefixOf_iff_prefix]
  constructor
  · rintro ⟨t, rfl⟩; rfl
  · intro h; exact ⟨l.drop 2, by rw [← h]; exact List.take_append_drop 2 l⟩

theorem empty_of (s : ByteArray) (h : s.size = 0) : s = ⟨#[]⟩ := by
  apply ByteArray.ext
  exact Array.eq_empty_of_size_eq_zero h

set_option maxHeartbeats 1600000 in
theorem front_calls (s : ByteArray) (hs : s.size ≤ 281474976710656) (w : World) : Calls Try.prog 49 #[.string s] w fun e w' => e = .returned (.tuple #[.int .i64 ((front s.data.toList).1 : Int), .int .i64 ((front s.data.toList).2 : Int)]) ∧ w = w' := by
  by_cases h0 : s.size = 0
  · obtain rfl := empty_of s h0
    go_enter Try.func49, Try.ntmps49
    go_wp2
    go_ret2
    exact ⟨rfl, rfl⟩
  · have hpos : 0 < s.size := by omega
    have hL := drop_cons s 0 hpos
    simp only [List.drop_zero] at hL
    obtain ⟨d0, hd0⟩ : ∃ d, letterB s[0] = d := ⟨_, rfl⟩
    obtain ⟨d1, hd1⟩ : ∃ d, digitB s[0] = d := ⟨_, rfl⟩
    obtain ⟨d2, hd2⟩ : ∃ d, decide (s.data.toList.take 2 = [45, 62]) = d := ⟨_, rfl⟩
    obtain ⟨d3, hd3⟩ : ∃ d, signB s[0] = d := ⟨_, rfl⟩
    have hF : front s.data.toList = if d0 = true then (1, (s.data.toList.takeWhile wordB).length) else if d1 = true then (2, (s.data.toList.takeWhile digitB).length) else if d2 = true then (3, 2) else if d3 = true then (3, 1) else (0, 1) := by
      unfold front
      rw [hL]
      simp only
      rw [← hL, hd0, hd1, hd3]
      subst hd2
      simp only [decide_eq_true_eq]
    have c0 := isLetter_calls s[0]
    have c1 := isDigit_calls s[0]
    have c3 := isSign_calls s[0]
    have c2 : ∀ w, Calls Try.prog 60 #[.string s, .string ⟨#[45, 62]⟩] w fun e w' => e = .returned (.bool d2) ∧ w = w' := by
      intro w
      refine (Try.strings_HasPrefix _ _ _).mono ?_
      rintro e w' ⟨rfl, rfl⟩
      refine ⟨?_, rfl⟩
      rw [← hd2, ← pref_take]
    rw [hd0] at c0
    rw [hd1] at c1
    rw [hd3] at c3
    have HF : Hid _ := hF
    have C0 : Hid _ := c0
    have C1 : Hid _ := c1
    have C2 : Hid _ := c2
    have C3 : Hid _ := c3
    have hne : s.toList.isEmpty = false := by
      rw [Lib.toList_data, hL]; rfl
    clear hd0 hd1 hd2 hd3 hF c0 c1 c2 c3 hL
    cases d0 with
    | true =>
      go_enter Try.func49, Try.ntmps49
      go_wp2_with (first | (go_at_call 56; refine (C0.out _).mono ?_; rintro e w' ⟨rfl, rfl⟩) | (go_at_call 59; refine (C1.out _).mono ?_; rintro e w' ⟨rfl, rfl⟩) | (go_at_call 60; refine (C2.out _).mono ?_; rintro e w' ⟨rfl, rfl⟩) | (go_at_call 61; refine (C3.out _).mono ?_; rintro e w' ⟨rfl, rfl⟩) | (go_at_call 57; refine (span58_calls s hs _).mono ?_; rintro e w' ⟨rfl, rfl⟩))
      go_ret2
      exact ⟨by rw [HF.out]; rfl, rfl⟩
    | false =>
      cases d1 with
      | true =>
        go_enter Try.func49, Try.ntmps49
        go_wp2_with (first | (go_at_call 56; refine (C0.out _).mono ?_; rintro e w' ⟨rfl, rfl⟩) | (go_at_call 59; refine (C1.out _).mono ?_; rintro e w' ⟨rfl, rfl⟩) | (go_at_call 60; refine (C2.out _).mono ?_; rintro e w' ⟨rfl, rfl⟩) | (go_at_call 61; refine (C3.out _).mono ?_; rintro e w' ⟨rfl, rfl⟩) | (go_at_call 57; refine (span59_calls s hs _).mono ?_; rintro e w' ⟨rfl, rfl⟩))
        go_ret2
        exact ⟨by rw [HF.out]; rfl, rfl⟩
      | false =>
        cases d2 <;> cases d3
        all_goals
          go_enter Try.func49, Try.ntmps49
          go_wp2_with (first | (go_at_call 56; refine (C0.out _).mono ?_; rintro e w' ⟨rfl, rfl⟩) | (go_at_call 59; refine (C1.out _).mono ?_; rintro e w' ⟨rfl, rfl⟩) | (go_at_call 60; refine (C2.out _).mono ?_; rintro e w' ⟨rfl, rfl⟩) | (go_at_call 61; refine (C3.out _).mono ?_; rintro e w' ⟨rfl, rfl⟩) | (go_at_call 57; refine (span59_calls s hs _).mono ?_; rintro e w' ⟨rfl, rfl⟩))
          go_ret2
          exact ⟨by rw [HF.out]; rfl, rfl⟩

theorem check_calls (kd n : Nat) (w : World) : Calls Try.prog 50 #[.int .i64 (kd : Int), .int .i64 (n : Int)] w fun e w' => e = .returned (.int .i64 (check kd n : Int)) ∧ w = w' := by
  obtain ⟨d0, hd0⟩ : ∃ d, ((kd : Int) == 0) = d := ⟨_, rfl⟩
  obtain ⟨d1, hd1⟩ : ∃ d, ((kd : Int) == 1) = d := ⟨_, rfl⟩
  obtain ⟨d2, hd2⟩ : ∃ d, ((kd : Int) == 2) = d := ⟨_, rfl⟩
  obtain ⟨d3, hd3⟩ : ∃ d, decide ((30 : Int) < (n : Int)) = d := ⟨_, rfl⟩
  obtain ⟨d4, hd4⟩ : ∃ d, decide ((9 : Int) < (n : Int)) = d := ⟨_, rfl⟩
  have hC : check kd n = if d0 = true then 3 else if (d1 && d3 || d2 && d4) = true then 2 else 0 := by
    subst hd0; subst hd1; subst hd2; subst hd3; subst hd4
    unfold check
    have e0 : (((kd : Int) == 0) = true) ↔ kd = 0 := by simp
    have e1 : (((kd : Int) == 1) = true) ↔ kd = 1 := by simp; omega
    have e2 : (((kd : Int) == 2) = true) ↔ kd = 2 := by simp; omega
    have e3 : (decide ((30 : Int) < (n : Int)) = true) ↔ 30 < n := by simp; omega
    have e4 : (decide ((9 : Int) < (n : Int)) = true) ↔ 9 < n := by simp; omega
    simp only [Bool.or_eq_true, Bool.and_eq_true, e0, e1, e2, e3, e4]
  have HC : Hid _ := hC
  clear hC
  cases d0 <;> cases d1 <;> cases d2 <;> cases d3 <;> cases d4
  all_goals
    go_enter Try.func50, Try.ntmps50
    go_wp2
    go_ret
    exact ⟨by rw [HC.out]; rfl, rfl⟩

set_option maxHeartbeats 400000 in
theorem clone_calls (s : ByteArray) (hs : s.size ≤ 281474976710656) (w : World) :
    Calls Try.prog 43 #[.string s] w fun e w' => e = .returned (.string s) ∧ Below w.heap.size w w' := by
  go_enter Try.func43, Try.ntmps43
  go_wp2_with (go_at_call 52; refine (Try.stringslite_Clone _ _ hs).mono ?_; rintro e w' ⟨rfl, hb⟩)
  go_ret
  exact ⟨rfl, hb⟩

theorem headB_size (s : ByteArray) : (headB s).size ≤ 10 := by
  unfold headB; rw [ByteArray.size_extract]; omega

set_option maxHeartbeats 400000 in
theorem head_calls (s : ByteArray) (hs : s.size ≤ 281474976710656) (w : World) :
    Calls Try.prog 45 #[.string s] w fun e w' => e = .returned (.string (headB s)) ∧ Below w.heap.size w w' := by
  go_enter Try.func45, Try.ntmps45
  go_wp2_with (go_at_call 43; refine (clone_calls _ (Nat.le_trans (headB_size s) (by omega)) _).mono ?_; rintro e w' ⟨rfl, hb⟩)
  go_ret
  exact ⟨rfl, hb⟩

theorem headB_all (s : ByteArray) (h : s.size ≤ 10) : headB s = s := by
  unfold headB
  have : (min (s.size : Int) 10).toNat = s.size := by omega
  rw [this]
  exact ByteArray.extract_zero_size
theorem headB_ten (s : ByteArray) (h : 10 < s.size) : headB s = s.extract 0 10 := by
  unfold headB
  have : (min (s.size : Int) 10).toNat = 10 := by omega
  rw [this]

theorem refHead_calls (s : ByteArray) (hs : s.size ≤ 281474976710656) (w : World) :
    Calls Try.prog 28 #[.string s] w fun e w' => e = .returned (.string (headB s)) ∧ w = w' := by
  by_cases h : 10 < s.size
  · have HH : Hid (headB s = s.extract 0 10) := headB_ten s h
    go_enter Try.func28, Try.ntmps28
    go_wp2
    go_ret
    exact ⟨by rw [HH.out]; rfl, rfl⟩
  · have HH : Hid (headB s = s) := headB_all s (by omega)
    go_enter Try.func28, Try.ntmps28
    go_wp2
    go_ret
    exact ⟨by rw [HH.out]; rfl, rfl⟩

theorem start_calls (w : World) : Calls Try.prog 30 #[] w fun e w' => e = .returned (.agg #[.int .i64 1, .int .i64 1]) ∧ Below w.heap.size w w' := by
  go_enter Try.func30, Try.ntmps30
  go_wp2
  exact bodyPost_ret (v := .agg #[.int .i64 1, .int .i64 1]) (by simp [results, Try.results30, go_sem]) rfl ⟨rfl, (Below.refl _ w).alloc (Nat.le_refl _) _⟩

/-- A token as a value. -/
def tokV (kd : Int) (s : ByteArray) (p : Int) : Value := .agg #[.int .i64 kd, .string s, .int .i64 p]

set_option maxHeartbeats 400000 in
theorem of_calls (kd : Int) (s : ByteArray) (p : Int) (w : World) :
    Calls Try.prog 19 #[.agg #[.int .i64 kd, .string s, .int .i64 p]] w fun e w' => e = .returned (.agg #[.int .i64 kd, .string s, .int .i64 p]) ∧ Below w.heap.size w w' := by
  go_enter Try.func19, Try.ntmps19
  go_wp2
  exact bodyPost_ret (v := .agg #[.int .i64 kd, .string s, .int .i64 p]) (by simp [results, Try.results19, go_sem]) rfl ⟨rfl, ((Below.refl _ w).alloc (Nat.le_refl _) _).alloc (by simp) _⟩

set_option maxHeartbeats 400000 in
theorem Fault_calls (c l k : Int) (s : ByteArray) (w : World) :
    Calls Try.prog 12 #[.agg #[.int .i64 c, .int .i64 l, .int .i64 k, .string s]] w fun e w' => e = .returned (.agg #[.int .i64 c, .int .i64 l, .int .i64 k, .string s]) ∧ Below w.heap.size w w' := by
  go_enter Try.func12, Try.ntmps12
  go_wp2
  exact bodyPost_ret (v := .agg #[.int .i64 c, .int .i64 l, .int .i64 k, .string s]) (by simp [results, Try.results12, go_sem]) rfl ⟨rfl, ((Below.refl _ w).alloc (Nat.le_refl _) _).alloc (by simp) _⟩

set_option maxHeartbeats 400000 in
theorem fresh_calls (kd : Int) (s : ByteArray) (p : Int) (hs : s.size ≤ 281474976710656) (w : World) :
    Calls Try.prog 33 #[.agg #[.int .i64 kd, .string s, .int .i64 p]] w fun e w' => e = .returned (.agg #[.int .i64 kd, .string s, .int .i64 p]) ∧ Below w.heap.size w w' := by
  obtain ⟨N, hN⟩ : ∃ N, w.heap.size = N := ⟨_, rfl⟩
  have HN : Hid (w.heap.size = N) := hN
  go_enter Try.func33, Try.ntmps33
  go_wp2_with fail
  generalize hW : (w.alloc (.cells #[.int .i64 kd, .string s, .int .i64 p] 46)).alloc (.cells #[.int .i64 0, .string ⟨#[]⟩, .int .i64 0] 46) = W
  have b0 : Blk W N 46 #[.int .i64 kd, .string s, .int .i64 p] := by rw [← hW]; exact (Blk.new' w N 46 _ hN).alloc _
  have b1 : Blk W (N + 1) 46 #[.int .i64 0, .string ⟨#[]⟩, .int .i64 0] := by rw [← hW]; exact Blk.new' _ _ 46 _ (by simp [hN])
  have hb : Below N w W := by rw [← hW]; exact ((Below.refl N w).alloc (by simp [hN]) _).alloc (by simp [hN]) _
  clear hW hN
  refine (clone_calls s hs _).mono ?_
  rintro e w1 ⟨rfl, hb1⟩
  have c0 := b0.below hb1 b0.lt
  have c1 := b1.below hb1 b1.lt
  have hbb : Below N w w1 := hb.trans (hb1.mono (Nat.le_of_lt b0.lt))
  clear hb1 b0 b1 hb
  have q0 : w1.cell? ⟨N, 0, none⟩ = some (.int .i64 kd) := c0.cell 0
  have q1 : w1.cell? ⟨N, 1, none⟩ = some (.string s) := c0.cell 1
  have q2 : w1.cell? ⟨N, 2, none⟩ = some (.int .i64 p) := c0.cell 2
  have f0 : ∀ j, w1.frozen? ⟨N, j, none⟩ = false := fun j => c0.frozen j
  have p0 : w1.cell? ⟨N + 1, 0, none⟩ = some (.int .i64 0) := c1.cell 0
  have p1 : w1.cell? ⟨N + 1, 1, none⟩ = some (.string ⟨#[]⟩) := c1.cell 1
  have p2 : w1.cell? ⟨N + 1, 2, none⟩ = some (.int .i64 0) := c1.cell 2
  have f1 : ∀ j, w1.frozen? ⟨N + 1, j, none⟩ = false := fun j => c1.frozen j
  go_wp2
  have d1 := (((c1.other (B' := N) (by omega) 1 (.string s)).set 0 (.int .i64 kd)).set 1 (.string s)).set 2 (.int .i64 p)
  have hbl := bset (i := 2) (bset (i := 1) (bset (i := 0) (bset (i := 1) hbb (Nat.le_refl N) (.string s)) (Nat.le_succ N) (.int .i64 kd)) (Nat.le_succ N) (.string s)) (Nat.le_succ N) (.int .i64 p)
  generalize ((((w1.setCell ⟨N, 1, none⟩ (.string s)).setCell ⟨N + 1, 0, none⟩ (.int .i64 kd)).setCell ⟨N + 1, 1, none⟩ (.string s)).setCell ⟨N + 1, 2, none⟩ (.int .i64 p)) = W3 at *
  have r0 : W3.cell? ⟨N + 1, 0, none⟩ = some (.int .i64 kd) := d1.cell 0
  have r1 : W3.cell? ⟨N + 1, 1, none⟩ = some (.string s) := d1.cell 1
  have r2 : W3.cell? ⟨N + 1, 2, none⟩ = some (.int .i64 p) := d1.cell 2
  exact bodyPost_ret (v := .agg #[.int .i64 kd, .string s, .int .i64 p]) (by simp [results, Try.results33, go_sem, r0, r1, r2]) rfl ⟨rfl, by rw [HN.out]; exact hbl⟩

end Go.Proofs.Ytainjagbcbjnbaa
