/-
  The contracts of what cuts one token: lex.span, remark, gap, front, check, head, fresh, start; strings.Clone; the document's Head.
-/
import Derived.Test.YtdihplmlbfggjaaDoorLxBytes
namespace Go.Proofs.YtdihplmlbfggjaaDoor.Lx
open Go Go.RowKit Go.Shelf Plain Lex

set_option maxHeartbeats 400000 in
theorem span58_calls (s : ByteArray) (hs : s.size ≤ 281474976710656) (w : World) : Calls Tryd.prog 71 #[.string s, .func (.func 72) #[] #[]] w fun e w' => e = .returned (.int .i64 ((s.data.toList.takeWhile wordB).length : Int)) ∧ w = w' := by
  go_enter Tryd.func71, Tryd.ntmps71
  go_wp2
  go_loopw [5] (fun i wr => ∃ k : Nat, k ≤ s.size ∧ i = .int .i64 k ∧ w = wr ∧ Hid ((s.data.toList.takeWhile wordB).length = k + ((s.data.toList.drop k).takeWhile wordB).length))
    (fun i _ => s.size - (intOf i).toNat)
  case atStart => exact ⟨0, Nat.zero_le _, rfl, rfl, by show _ = _; simp⟩
  case round =>
    obtain ⟨k, hk, rfl, rfl, hall⟩ := hrel
    by_cases hlt : k < s.size
    · obtain ⟨d, hd⟩ : ∃ d, wordB s[k] = d := ⟨_, rfl⟩
      have c0 := isWordByte_calls s[k]
      rw [hd] at c0
      have C0 : Hid _ := c0
      cases d with
      | true =>
        have HR : Hid ((s.data.toList.takeWhile wordB).length = k + 1 + ((s.data.toList.drop (k + 1)).takeWhile wordB).length) := by
          show _ = _
          rw [hall.out, tw_more wordB s k hlt hd]; omega
        clear hall hd c0
        go_wp2_with (refine (C0.out _).mono ?_; rintro e w' ⟨rfl, rfl⟩)
        exact ⟨⟨k + 1, by omega, by go_num, trivial, HR⟩, by simp [intOf]; omega⟩
      | false =>
        have HR : Hid (((s.data.toList.takeWhile wordB).length : Int) = (k : Int)) := by
          show _ = _
          rw [hall.out, tw_stop wordB s k hlt hd]; rfl
        clear hall hd c0
        go_wp2_with (refine (C0.out _).mono ?_; rintro e w' ⟨rfl, rfl⟩)
        go_ret
        exact ⟨by rw [HR.out]; rfl, rfl⟩
    · obtain rfl : k = s.size := by omega
      have HR : Hid (((s.data.toList.takeWhile wordB).length : Int) = (s.size : Int)) := by
        show _ = _
        rw [hall.out, tw_end]; rfl
      clear hall
      go_wp2
      go_ret
      exact ⟨by rw [HR.out]; rfl, rfl⟩

set_option maxHeartbeats 400000 in
theorem span59_calls (s : ByteArray) (hs : s.size ≤ 281474976710656) (w : World) : Calls Tryd.prog 71 #[.string s, .func (.func 73) #[] #[]] w fun e w' => e = .returned (.int .i64 ((s.data.toList.takeWhile digitB).length : Int)) ∧ w = w' := by
  go_enter Tryd.func71, Tryd.ntmps71
  go_wp2
  go_loopw [5] (fun i wr => ∃ k : Nat, k ≤ s.size ∧ i = .int .i64 k ∧ w = wr ∧ Hid ((s.data.toList.takeWhile digitB).length = k + ((s.data.toList.drop k).takeWhile digitB).length))
    (fun i _ => s.size - (intOf i).toNat)
  case atStart => exact ⟨0, Nat.zero_le _, rfl, rfl, by show _ = _; simp⟩
  case round =>
    obtain ⟨k, hk, rfl, rfl, hall⟩ := hrel
    by_cases hlt : k < s.size
    · obtain ⟨d, hd⟩ : ∃ d, digitB s[k] = d := ⟨_, rfl⟩
      have c0 := isDigit_calls s[k]
      rw [hd] at c0
      have C0 : Hid _ := c0
      cases d with
      | true =>
        have HR : Hid ((s.data.toList.takeWhile digitB).length = k + 1 + ((s.data.toList.drop (k + 1)).takeWhile digitB).length) := by
          show _ = _
          rw [hall.out, tw_more digitB s k hlt hd]; omega
        clear hall hd c0
        go_wp2_with (refine (C0.out _).mono ?_; rintro e w' ⟨rfl, rfl⟩)
        exact ⟨⟨k + 1, by omega, by go_num, trivial, HR⟩, by simp [intOf]; omega⟩
      | false =>
        have HR : Hid (((s.data.toList.takeWhile digitB).length : Int) = (k : Int)) := by
          show _ = _
          rw [hall.out, tw_stop digitB s k hlt hd]; rfl
        clear hall hd c0
        go_wp2_with (refine (C0.out _).mono ?_; rintro e w' ⟨rfl, rfl⟩)
        go_ret
        exact ⟨by rw [HR.out]; rfl, rfl⟩
    · obtain rfl : k = s.size := by omega
      have HR : Hid (((s.data.toList.takeWhile digitB).length : Int) = (s.size : Int)) := by
        show _ = _
        rw [hall.out, tw_end]; rfl
      clear hall
      go_wp2
      go_ret
      exact ⟨by rw [HR.out]; rfl, rfl⟩

theorem ext_list (s : ByteArray) (k : Nat) : (s.extract k s.size).data.toList = s.data.toList.drop k := Lib.extract_to_end s k

end Go.Proofs.YtdihplmlbfggjaaDoor.Lx
