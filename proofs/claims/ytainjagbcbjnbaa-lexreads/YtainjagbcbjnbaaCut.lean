/-
  The contracts of what cuts one token: lex.span, remark, gap, front, check, head, fresh, start; strings.Clone; the document's Head.
-/
import Derived.Test.YtainjagbcbjnbaaBytes
namespace Go.Proofs.Ytainjagbcbjnbaa
open Go Go.RowKit Go.Shelf Plain Lex

set_option maxHeartbeats 400000 in
theorem span58_calls (s : ByteArray) (hs : s.size ≤ 281474976710656) (w : World) : Calls Try.prog 57 #[.string s, .func (.func 58) #[] #[]] w fun e w' => e = .returned (.int .i64 ((s.data.toList.takeWhile wordB).length : Int)) ∧ w = w' := by
  go_enter Try.func57, Try.ntmps57
  go_wp2
  go_loopw [5] (fun i wr => ∃ k : Nat, k ≤ s.size ∧ i = .int .i64 k ∧ w = wr ∧ Hid ((s.data.toList.takeWhile wordB).length = k + ((s.data.toList.drop k).takeWhile wordB).length))
    (fun i _ => s.size - (intOf i).toNat)
  case atStart => exact ⟨0, Nat.zero_le _, rfl, rfl, by show _ = _; simp⟩
  case round =>
    obtain ⟨k, hk, rfl, rfl, hall⟩ := hrel
    by_cases hlt : k < s.size
    · obtain ⟨d, hd⟩ : ∃ d, wordB s[k] = d := ⟨_, rfl⟩
      have c0 := isWordByte_calls s[k]
      rw [hd] at c0
      have C0 : Hid _ := c0
      cases d with
      | true =>
        have HR : Hid ((s.data.toList.takeWhile wordB).length = k + 1 + ((s.data.toList.drop (k + 1)).takeWhile wordB).length) := by
          show _ = _
          rw [hall.out, tw_more wordB s k hlt hd]; omega
        clear hall hd c0
        go_wp2_with (refine (C0.out _).mono ?_; rintro e w' ⟨rfl, rfl⟩)
        exact ⟨⟨k + 1, by omega, by go_num, trivial, HR⟩, by simp [intOf]; omega⟩
      | false =>
        have HR : Hid (((s.data.toList.takeWhile wordB).length : Int) = (k : Int)) := by
          show _ = _
          rw [hall.out, tw_stop wordB s k hlt hd]; rfl
        clear hall hd c0
        go_wp2_with (refine (C0.out _).mono ?_; rintro e w' ⟨rfl, rfl⟩)
        go_ret
        exact ⟨by rw [HR.out]; rfl, rfl⟩
    · obtain rfl : k = s.size := by omega
      have HR : Hid (((s.data.toList.takeWhile wordB).length : Int) = (s.size : Int)) := by
        show _ = _
        rw [hall.out, tw_end]; rfl
      clear hall
      go_wp2
      go_ret
      exact ⟨by rw [HR.out]; rfl, rfl⟩

set_option maxHeartbeats 400000 in
theorem span59_calls (s : ByteArray) (hs : s.size ≤ 281474976710656) (w : World) : Calls Try.prog 57 #[.string s, .func (.func 59) #[] #[]] w fun e w' => e = .returned (.int .i64 ((s.data.toList.takeWhile digitB).length : Int)) ∧ w = w' := by
  go_enter Try.func57, Try.ntmps57
  go_wp2
  go_loopw [5] (fun i wr => ∃ k : Nat, k ≤ s.size ∧ i = .int .i64 k ∧ w = wr ∧ Hid ((s.data.toList.takeWhile digitB).length = k + ((s.data.toList.drop k).takeWhile digitB).length))
    (fun i _ => s.size - (intOf i).toNat)
  case atStart => exact ⟨0, Nat.zero_le _, rfl, rfl, by show _ = _; simp⟩
  case round =>
    obtain ⟨k, hk, rfl, rfl, hall⟩ := hrel
    by_cases hlt : k < s.size
    · obtain ⟨d, hd⟩ : ∃ d, digitB s[k] = d := ⟨_, rfl⟩
      have c0 := isDigit_calls s[k]
      rw [hd] at c0
      have C0 : Hid _ := c0
      cases d with
      | true =>
        have HR : Hid ((s.data.toList.takeWhile digitB).length = k + 1 + ((s.data.toList.drop (k + 1)).takeWhile digitB).length) := by
          show _ = _
          rw [hall.out, tw_more digitB s k hlt hd]; omega
        clear hall hd c0
        go_wp2_with (refine (C0.out _).mono ?_; rintro e w' ⟨rfl, rfl⟩)
        exact ⟨⟨k + 1, by omega, by go_num, trivial, HR⟩, by simp [intOf]; omega⟩
      | false =>
        have HR : Hid (((s.data.toList.takeWhile digitB).length : Int) = (k : Int)) := by
          show _ = _
          rw [hall.out, tw_stop digitB s k hlt hd]; rfl
        clear hall hd c0
        go_wp2_with (refine (C0.out _).mono ?_; rintro e w' ⟨rfl, rfl⟩)
        go_ret
        exact ⟨by rw [HR.out]; rfl, rfl⟩
    · obtain rfl : k = s.size := by omega
      have HR : Hid (((s.data.toList.takeWhile digitB).length : Int) = (s.size : Int)) := by
        show _ = _
        rw [hall.out, tw_end]; rfl
      clear hall
      go_wp2
      go_ret
      exact ⟨by rw [HR.out]; rfl, rfl⟩

set_option maxHeartbeats 400000 in
theorem remark_calls (s : ByteArray) (w : World) : Calls Try.prog 55 #[.string s] w fun e w' => e = .returned (.int .i64 (remLen s.data.toList : Int)) ∧ w = w' := by
  have hge := Lib.indexByte_ge s.data.toList 10
  have e10 : (10 : Int).toNat.toUInt8 = 10 := by decide
  have hC : ∀ w, Calls Try.prog 64 #[.string s, .int .u8 10] w fun e w' => e = .returned (.int .i64 (Lib.indexByte s.data.toList 10)) ∧ w = w' := by
    intro w
    refine (Try.strings_IndexByte _ _ _).mono ?_
    rintro e w' ⟨rfl, rfl⟩
    rw [e10]; exact ⟨rfl, rfl⟩
  by_cases h : Lib.indexByte s.data.toList 10 < 0
  · have HR : Hid ((remLen s.data.toList : Int) = (s.size : Int)) := by show _ = _; unfold remLen; rw [if_pos h]; simp
    generalize Lib.indexByte s.data.toList 10 = j at *
    have HC : Hid _ := hC
    clear hC
    go_enter Try.func55, Try.ntmps55
    go_wp2_with (go_at_call 64; refine (HC.out _).mono ?_; rintro e w' ⟨rfl, rfl⟩)
    go_ret
    exact ⟨by rw [HR.out]; rfl, rfl⟩
  · have HR : Hid ((remLen s.data.toList : Int) = Lib.indexByte s.data.toList 10) := by show _ = _; unfold remLen; rw [if_neg h]; omega
    generalize Lib.indexByte s.data.toList 10 = j at *
    have HC : Hid _ := hC
    clear hC
    go_enter Try.func55, Try.ntmps55
    go_wp2_with (go_at_call 64; refine (HC.out _).mono ?_; rintro e w' ⟨rfl, rfl⟩)
    go_ret
    exact ⟨by rw [HR.out]; rfl, rfl⟩

theorem ext_list (s : ByteArray) (k : Nat) : (s.extract k s.size).data.toList = s.data.toList.drop k := Lib.extract_to_end s k

set_option maxHeartbeats 800000 in
theorem gap_calls (s : ByteArray) (hs : s.size ≤ 281474976710656) (w : World) : Calls Try.prog 48 #[.string s] w fun e w' => e = .returned (.int .i64 (gapR false s.data.toList : Int)) ∧ w = w' := by
  go_enter Try.func48, Try.ntmps48
  go_wp2
  go_loopw [3] (fun i wr => ∃ k : Nat, k ≤ s.size ∧ i = .int .i64 k ∧ w = wr ∧ Hid (gapR false s.data.toList = k + gapR false (s.data.toList.drop k)))
    (fun i _ => s.size - (intOf i).toNat)
  case atStart => exact ⟨0, Nat.zero_le _, rfl, rfl, by show _ = _; simp⟩
  case round =>
    obtain ⟨k, hk, rfl, rfl, hall⟩ := hrel
    by_cases hlt : k < s.size
    · have hdr := drop_cons s k hlt
      obtain ⟨d, hd⟩ : ∃ d, blankB s[k] = d := ⟨_, rfl⟩
      have c0 := isBlank_calls s[k]
      rw [hd] at c0
      have C0 : Hid _ := c0
      cases d with
      | true =>
        have HR : Hid (gapR false s.data.toList = k + 1 + gapR false (s.data.toList.drop (k + 1))) := by
          show _ = _
          rw [hall.out, hdr]; simp only [gapR, hd, if_true]; omega
        clear hall hd c0 hdr
        go_wp2_with (go_at_call 54; refine (C0.out _).mono ?_; rintro e w' ⟨rfl, rfl⟩)
        exact ⟨⟨k + 1, by omega, by go_num, trivial, HR⟩, by simp [intOf]; omega⟩
      | false =>
        by_cases h35 : s[k].toNat = 35
        · have hb : ((s[k].toNat : Int) == 35) = true := by simp; omega
          have hrl := remLen_le (s.data.toList.drop k)
          have hlen : (s.data.toList.drop k).length = s.size - k := by simp
          have hr1 : remLen (s.data.toList.drop k) = remLen (s.data.toList.drop (k + 1)) + 1 := by rw [hdr]; exact remLen_cons _ _ (by omega)
          have HR : Hid (gapR false s.data.toList = k + remLen (s.data.toList.drop k) + gapR false (s.data.toList.drop (k + remLen (s.data.toList.drop k)))) := by
            show _ = _
            have e1 : gapR false (s.data.toList.drop k) = gapR true (s.data.toList.drop k) := by
              rw [hdr]; simp only [gapR, hd, h35, if_true]; simp
            rw [hall.out, e1, gapR_true, List.drop_drop]; omega
          have c1 := remark_calls (s.extract k s.size)
          rw [ext_list] at c1
          generalize remLen (s.data.toList.drop k) = rl at *
          have C1 : Hid _ := c1
          clear hall hd c0 hdr c1 h35
          go_wp2_with (first | (go_at_call 54; refine (C0.out _).mono ?_; rintro e w' ⟨rfl, rfl⟩) | (go_at_call 55; refine (C1.out _).mono ?_; rintro e w' ⟨rfl, rfl⟩))
          exact ⟨⟨k + rl, by omega, by go_num, trivial, HR⟩, by simp [intOf]; omega⟩
        · have hb : ((s[k].toNat : Int) == 35) = false := by simp; omega
          have HR : Hid ((gapR false s.data.toList : Int) = (k : Int)) := by
            show _ = _
            rw [hall.out, hdr]; simp [gapR, hd, h35]
          clear hall hd c0 hdr
          go_wp2_with (go_at_call 54; refine (C0.out _).mono ?_; rintro e w' ⟨rfl, rfl⟩)
          go_ret
          exact ⟨by rw [HR.out]; rfl, rfl⟩
    · obtain rfl : k = s.size := by omega
      have HR : Hid ((gapR false s.data.toList : Int) = (s.size : Int)) := by
        show _ = _
        rw [hall.out, List.drop_eq_nil_of_le (by simp)]; simp [gapR]
      clear hall
      go_wp2
      go_ret
      exact ⟨by rw [HR.out]; rfl, rfl⟩

end Go.Proofs.Ytainjagbcbjnbaa
