/-
  The contracts of the document's own sign and Compare, and of cmp.Compare and cmp.Or at ints.
-/
import Derived.Test.YtheokboggjnenaaOrd
import Derived.Test.YtheokboggjnenaaKnownT
import Derived.Lib.QuietBelow
namespace Go.Proofs.Ytheokboggjnenaa
open Go Go.RowKit Go.Sort

/-- A contract that ends in 'Below', from any later world. -/
theorem Calls.cur {f : Nat} {args : Array Value} {W0 cur : World} {v : Value} (h : Cur W0 cur) (c : Calls Try.prog f args cur fun e w' => e = .returned v ∧ Below cur.heap.size cur w') : Calls Try.prog f args cur fun e w' => e = .returned v ∧ Cur W0 w' :=
  c.mono fun _ _ ⟨he, hb⟩ => ⟨he, h.then hb⟩

set_option maxRecDepth 100000 in
set_option maxHeartbeats 1000000 in
theorem sign_calls (a b : Int) (w : World) : Calls Try.prog 106 #[.int .i64 a, .int .i64 b] w fun e w' => e = .returned (.int .i64 (sgn a b)) ∧ w = w' := by
  by_cases h1 : a < b
  · have HS : Hid (sgn a b = -1) := by show _ = _; unfold sgn; rw [if_pos h1]
    go_enter Try.func106, Try.ntmps106
    go_wp2
    go_ret
    exact ⟨ret_int (by rw [HS.out]), rfl⟩
  · by_cases h2 : a > b
    · have HS : Hid (sgn a b = 1) := by show _ = _; unfold sgn; rw [if_neg h1, if_pos h2]
      go_enter Try.func106, Try.ntmps106
      go_wp2
      go_ret
      exact ⟨ret_int (by rw [HS.out]), rfl⟩
    · have HS : Hid (sgn a b = 0) := by show _ = _; unfold sgn; rw [if_neg h1, if_neg h2]
      go_enter Try.func106, Try.ntmps106
      go_wp2
      go_ret
      exact ⟨ret_int (by rw [HS.out]), rfl⟩

theorem nan_calls (x : Int) (w : World) : Calls Try.prog 129 #[.int .i64 x] w fun e w' => e = .returned (.bool false) ∧ w = w' := by
  have z : (x != x) = false := by simp
  go_enter Try.func129, Try.ntmps129
  go_wp2
  go_ret
  exact ⟨rfl, rfl⟩

set_option maxRecDepth 100000 in
set_option maxHeartbeats 1000000 in
theorem cmpCompare_calls (a b : Int) (w : World) : Calls Try.prog 99 #[.int .i64 a, .int .i64 b] w fun e w' => e = .returned (.int .i64 (sgn a b)) ∧ w = w' := by
  by_cases h1 : a < b
  · have HS : Hid (sgn a b = -1) := by show _ = _; unfold sgn; rw [if_pos h1]
    go_enter Try.func99, Try.ntmps99
    go_wp2_with (go_at_call 129; refine (nan_calls _ _).mono ?_; rintro e w' ⟨rfl, rfl⟩)
    go_ret
    exact ⟨ret_int (by rw [HS.out]), rfl⟩
  · by_cases h2 : a > b
    · have HS : Hid (sgn a b = 1) := by show _ = _; unfold sgn; rw [if_neg h1, if_pos h2]
      go_enter Try.func99, Try.ntmps99
      go_wp2_with (go_at_call 129; refine (nan_calls _ _).mono ?_; rintro e w' ⟨rfl, rfl⟩)
      go_ret
      exact ⟨ret_int (by rw [HS.out]), rfl⟩
    · have HS : Hid (sgn a b = 0) := by show _ = _; unfold sgn; rw [if_neg h1, if_neg h2]
      go_enter Try.func99, Try.ntmps99
      go_wp2_with (go_at_call 129; refine (nan_calls _ _).mono ?_; rintro e w' ⟨rfl, rfl⟩)
      go_ret
      exact ⟨ret_int (by rw [HS.out]), rfl⟩

/-- the first of two numbers that isn't 0 -/
def orI (a b : Int) : Int := if a ≠ 0 then a else b

set_option maxRecDepth 100000 in
set_option maxHeartbeats 1000000 in
theorem cmpOr_calls (a b : Int) (G : Nat) (w : World) (h0 : w.cell? ⟨G, 0, none⟩ = some (.int .i64 a)) (h1 : w.cell? ⟨G, 1, none⟩ = some (.int .i64 b)) :
    Calls Try.prog 102 #[.slice (some ⟨G, 0, none⟩) 2 2] w fun e w' => e = .returned (.int .i64 (orI a b)) ∧ w = w' := by
  go_enter Try.func102, Try.ntmps102
  go_wp2
  go_loop [8] (fun i => ∃ k : Nat, k ≤ 2 ∧ i = .int .i64 k ∧ (0 < k → a = 0) ∧ (1 < k → b = 0)) (fun i => 2 - (intOf i).toNat)
  case atStart => exact ⟨0, by omega, rfl, by omega, by omega⟩
  case round =>
    obtain ⟨k, hk, rfl, ha, hb⟩ := hrel
    have HA : Hid (0 < k → a = 0) := ha
    have HB : Hid (1 < k → b = 0) := hb
    clear ha hb
    match k, hk with
    | 0, _ =>
      obtain ⟨d, hd⟩ : ∃ d, (a != 0) = d := ⟨_, rfl⟩
      cases d
      · have e0 : a = 0 := by simpa using hd
        have E0 : Hid (a = 0) := e0
        clear e0
        go_wp2
        go_round
        case rel => exact ⟨1, by omega, rfl, fun _ => E0.out, by omega⟩
        case measure => simp [intOf]
      · have e0 : a ≠ 0 := by simpa using hd
        have E0 : Hid (orI a b = a) := by show _ = _; unfold orI; rw [if_pos e0]
        clear e0
        go_wp2
        go_ret
        exact ⟨ret_int (by rw [E0.out]), rfl⟩
    | 1, _ =>
      have e1 := HA.out (by omega)
      have E1 : Hid (orI a b = b) := by show _ = _; unfold orI; rw [if_neg (by simpa using e1)]
      clear HA HB
      have E0 : Hid (a = 0) := e1
      clear e1
      obtain ⟨d, hd⟩ : ∃ d, (b != 0) = d := ⟨_, rfl⟩
      cases d
      · have e0 : b = 0 := by simpa using hd
        have E2 : Hid (b = 0) := e0
        clear e0
        go_wp2
        go_round
        case rel => exact ⟨2, by omega, rfl, fun _ => E0.out, fun _ => E2.out⟩
        case measure => simp [intOf]
      · go_wp2
        go_ret
        exact ⟨ret_int (by rw [E1.out]), rfl⟩
    | 2, _ =>
      have e1 := HA.out (by omega)
      have e2 := HB.out (by omega)
      have E1 : Hid (orI a b = 0) := by show _ = _; unfold orI; rw [if_neg (by simpa using e1), e2]
      clear HA HB e1 e2
      go_wp2
      go_ret
      exact ⟨ret_int (by rw [E1.out]), rfl⟩

end Go.Proofs.Ytheokboggjnenaa
