/-
  The contracts of place.Name, the document's Name and the document's Number: each error's word; a number to the base 10.
-/
import Derived.Test.YtjmpacenlmoldaaDoorRef
import Derived.WalkSmall
import Derived.WalkLawsBesides
import Derived.Lib.LaidTab
import Derived.Laws.BytesArg
namespace Go.Proofs.YtjmpacenlmoldaaDoor
open Go Go.RowKit Go.Shelf Plain

/-- The errors' words. -/
def wordL : List (List UInt8) := [[111, 107], [97, 114, 103, 117, 109, 101, 110, 116], [108, 105, 109, 105, 116], [102, 111, 114, 109], [110, 97, 109, 101], [116, 121, 112, 101], [112, 97, 116, 116, 101, 114, 110], [114, 117, 108, 101], [111, 114, 100, 101, 114], [99, 108, 97, 115, 104], [110, 111, 110, 101], [102, 117, 101, 108], [112, 114, 111, 111, 102], [115, 116, 97, 116, 101]]
def wordB (i : Nat) : ByteArray := ⟨(wordL.getD i []).toArray⟩
/-- An error's word, or a question mark. -/
def nameB (e : Int) : ByteArray := if 0 ≤ e ∧ e < 14 then wordB e.toNat else ⟨#[63]⟩

set_option maxHeartbeats 400000 in
theorem Name_in (e : Int) (h0 : 0 ≤ e) (h1 : e < 14) (w : World) (hc : w.cell? ⟨0, e.toNat, none⟩ = some (.string (wordB e.toNat))) :
    Calls Tryd.prog 25 #[.int .i64 e] w fun r w' => r = .returned (.string (nameB e)) ∧ w' = w := by
  have hn : nameB e = wordB e.toNat := by unfold nameB; rw [if_pos ⟨h0, h1⟩]
  rw [hn]
  clear hn
  go_enter Tryd.func25, Tryd.ntmps25
  go_wp2
  go_ret
  exact ⟨rfl, rfl⟩

set_option maxHeartbeats 400000 in
theorem Name_out (e : Int) (h : e < 0 ∨ 14 ≤ e) (w : World) :
    Calls Tryd.prog 25 #[.int .i64 e] w fun r w' => r = .returned (.string (nameB e)) ∧ w' = w := by
  have hn : nameB e = ⟨#[63]⟩ := by unfold nameB; rw [if_neg (by omega)]
  rw [hn]
  clear hn
  by_cases h0 : e < 0
  · clear h
    go_enter Tryd.func25, Tryd.ntmps25
    go_wp2
    go_ret
    exact ⟨rfl, rfl⟩
  · have h1 : 14 ≤ e := by omega
    clear h
    go_enter Tryd.func25, Tryd.ntmps25
    go_wp2
    go_ret
    exact ⟨rfl, rfl⟩

set_option maxHeartbeats 1600000 in
theorem refName_calls (e : Int) (w : World) :
    Calls Tryd.prog 23 #[.int .i64 e] w fun r w' => r = .returned (.string (nameB e)) ∧ w' = w := by
  by_cases h : 0 ≤ e ∧ e < 14
  · have : e = 0 ∨ e = 1 ∨ e = 2 ∨ e = 3 ∨ e = 4 ∨ e = 5 ∨ e = 6 ∨ e = 7 ∨ e = 8 ∨ e = 9 ∨ e = 10 ∨ e = 11 ∨ e = 12 ∨ e = 13 := by omega
    clear h
    rcases this with rfl | rfl | rfl | rfl | rfl | rfl | rfl | rfl | rfl | rfl | rfl | rfl | rfl | rfl
    all_goals
      go_enter Tryd.func23, Tryd.ntmps23
      go_wp2
      go_ret
      exact ⟨rfl, rfl⟩
  · have hn : nameB e = ⟨#[63]⟩ := by unfold nameB; rw [if_neg h]
    rw [hn]
    have g0 : (e == 0) = false := by simp; omega
    have g1 : (e == 1) = false := by simp; omega
    have g2 : (e == 2) = false := by simp; omega
    have g3 : (e == 3) = false := by simp; omega
    have g4 : (e == 4) = false := by simp; omega
    have g5 : (e == 5) = false := by simp; omega
    have g6 : (e == 6) = false := by simp; omega
    have g7 : (e == 7) = false := by simp; omega
    have g8 : (e == 8) = false := by simp; omega
    have g9 : (e == 9) = false := by simp; omega
    have g10 : (e == 10) = false := by simp; omega
    have g11 : (e == 11) = false := by simp; omega
    have g12 : (e == 12) = false := by simp; omega
    have g13 : (e == 13) = false := by simp; omega
    clear hn h
    go_enter Tryd.func23, Tryd.ntmps23
    go_wp2
    go_ret
    exact ⟨rfl, rfl⟩

/-- 'string of one byte that was just laid'. -/
theorem conv_one (w : World) (x : Int) : Sem.run Tryd.prog (convert 68 9 (.slice (some ⟨w.heap.size, 0, none⟩) 1 1)) (w.alloc (.cells #[.int .u8 x] 5)) = .ok (.string ⟨#[UInt8.ofNat x.toNat]⟩) (w.alloc (.cells #[.int .u8 x] 5)) := by
  have h := run_convert_bytes_arg (P := Tryd.prog) (w.alloc (.cells #[.int .u8 x] 5)) 68 5 Tryd.underlying68 Tryd.underlying5 w.heap.size 0 1 1 [x] rfl
    (fun i hi => by obtain rfl : i = 0 := by omega
                    exact (Blk.new w 5 #[.int .u8 x]).cell 0) 9 Tryd.underlying9
  exact h

theorem digit_byte (n : Nat) : UInt8.ofNat (48 + (n : Int) % 10).toNat = UInt8.ofNat (48 + n % 10) := by
  have : (48 + (n : Int) % 10).toNat = 48 + n % 10 := by omega
  rw [this]

/-- What is left of a number's digits, with those that were cut off. -/
def digitsOf (n : Nat) (rest : List UInt8) : List UInt8 := if n = 0 then rest else Lib.decDigits n ++ rest
theorem digitsOf_step (n : Nat) (rest : List UInt8) (h : 0 < n) : digitsOf (n / 10) (UInt8.ofNat (48 + n % 10) :: rest) = digitsOf n rest := by
  unfold digitsOf
  rw [if_neg (show ¬ n = 0 by omega)]
  by_cases h1 : n < 10
  · have e : Lib.decDigits n = [UInt8.ofNat (48 + n)] := by rw [Lib.decDigits, dif_pos h1]
    rw [e, if_pos (by omega)]
    have : n % 10 = n := by omega
    rw [this]; rfl
  · have e : Lib.decDigits n = Lib.decDigits (n / 10) ++ [UInt8.ofNat (48 + n % 10)] := by rw [Lib.decDigits, dif_neg h1]
    rw [e, if_neg (by omega)]
    simp
theorem digitsOf_first (n : Nat) : digitsOf (n / 10) [UInt8.ofNat (48 + n % 10)] = Lib.decDigits n := by
  by_cases h : n = 0
  · subst h; rw [Lib.decDigits]; simp [digitsOf]
  · rw [digitsOf_step n [] (by omega)]; unfold digitsOf; rw [if_neg h]; simp

theorem one_append (b : UInt8) (rest : List UInt8) : (⟨#[b]⟩ : ByteArray) ++ ⟨rest.toArray⟩ = ⟨(b :: rest).toArray⟩ := by
  apply ByteArray.ext
  simp

set_option maxHeartbeats 800000 in
theorem Number_pos (n : Nat) (hn : (n : Int) ≤ 9223372036854775807) (w : World) :
    Calls Tryd.prog 22 #[.int .i64 n] w fun r w' => r = .returned (.string ⟨(Lib.decDigits n).toArray⟩) ∧ Below w.heap.size w w' := by
  obtain ⟨N, hN⟩ : ∃ N, w.heap.size = N := ⟨_, rfl⟩
  have HN : Hid (w.heap.size = N) := hN
  clear hN
  have g0 : ((n : Int) == -9223372036854775808) = false := by simp
  have g1 : decide ((n : Int) < 0) = false := by simp
  have kc := conv_one
  go_enter Tryd.func22, Tryd.ntmps22
  go_wp2
  go_loopw [0, 3] (fun x t wr => ∃ (m : Nat) (rest : List UInt8), x = .int .i64 m ∧ t = .string ⟨rest.toArray⟩ ∧ Hid (digitsOf m rest = Lib.decDigits n) ∧ rest.length + m ≤ n / 10 + 1 ∧ Below N w wr)
    (fun x _ _ => (intOf x).toNat)
  case atStart => exact ⟨n / 10, [UInt8.ofNat (48 + n % 10)], rfl, rfl, digitsOf_first n, by simp; omega, (Below.refl N w).alloc (Nat.le_of_eq HN.out.symm) _⟩
  case round =>
    obtain ⟨m, rest, rfl, rfl, hd, hle, hb⟩ := hrel
    by_cases hm : 0 < m
    · have hsz : (⟨rest.toArray⟩ : ByteArray).size = rest.length := rfl
      have hwr : N ≤ wr.heap.size := by have := hb.size; have := HN.out; omega
      go_wp2
      refine ⟨⟨m / 10, UInt8.ofNat (48 + m % 10) :: rest, rfl, ?_, ?_, ?_, hb.alloc hwr _⟩, ?_⟩
      · rw [one_append, UInt8.ofNat_add]; rfl
      · show _ = _; rw [digitsOf_step m rest hm]; exact hd.out
      · simp only [List.length_cons]; omega
      · simp only [intOf]; omega
    · obtain rfl : m = 0 := by omega
      go_wp2
      go_ret
      have e : rest = Lib.decDigits n := by have := hd.out; simpa [digitsOf] using this
      exact ⟨by rw [← e]; rfl, by rw [HN.out]; exact hb⟩

theorem itoa_nat (n : Nat) : Lib.itoa (n : Int) = Lib.decDigits n := by
  unfold Lib.itoa
  rw [if_neg (by omega)]; rfl
theorem itoa_neg (n : Nat) (h : 0 < n) : Lib.itoa (-(n : Int)) = 45 :: Lib.decDigits n := by
  unfold Lib.itoa
  rw [if_pos (by omega)]
  have : (-(n : Int)).natAbs = n := by omega
  rw [this]

theorem decDigits_len (n : Nat) : (Lib.decDigits n).length ≤ n / 10 + 1 := by
  induction n using Nat.strongRecOn with
  | _ n ih =>
    rw [Lib.decDigits]
    by_cases h : n < 10
    · rw [dif_pos h]; simp
    · rw [dif_neg h]
      have := ih (n / 10) (by omega)
      simp only [List.length_append, List.length_cons, List.length_nil]
      omega

set_option maxHeartbeats 800000 in
theorem Number_neg (n : Nat) (h0 : 0 < n) (hn : (n : Int) ≤ 9223372036854775807) (w : World) :
    Calls Tryd.prog 22 #[.int .i64 (-(n : Int))] w fun r w' => r = .returned (.string ⟨(Lib.itoa (-(n : Int))).toArray⟩) ∧ Below w.heap.size w w' := by
  have g0 : (-(n : Int) == -9223372036854775808) = false := by simp; omega
  have g1 : decide (-(n : Int) < 0) = true := by simp; omega
  go_enter Tryd.func22, Tryd.ntmps22
  have hsz := decDigits_len n
  have hs2 : ¬ 9223372036854775807 < 1 + (Lib.decDigits n).length := by omega
  rw [itoa_neg n h0]
  go_wp2_with (go_at_call 22; refine (Number_pos n hn _).mono ?_; rintro e w' ⟨rfl, hb⟩)
  go_ret
  exact ⟨congrArg (fun b => Ending.returned (.string b)) (one_append 45 (Lib.decDigits n)), hb⟩

theorem itoa_min : Lib.itoa (-9223372036854775808) = [45, 57, 50, 50, 51, 51, 55, 50, 48, 51, 54, 56, 53, 52, 55, 55, 53, 56, 48, 56] := by
  unfold Lib.itoa
  rw [if_pos (by decide)]
  have e : (-9223372036854775808 : Int).natAbs = 9223372036854775808 := by decide
  rw [e]
  simp [Lib.decDigits]

set_option maxHeartbeats 800000 in
theorem Number_min (w : World) :
    Calls Tryd.prog 22 #[.int .i64 (-9223372036854775808)] w fun r w' => r = .returned (.string ⟨(Lib.itoa (-9223372036854775808)).toArray⟩) ∧ Below w.heap.size w w' := by
  rw [itoa_min]
  go_enter Tryd.func22, Tryd.ntmps22
  go_wp2
  go_ret
  exact ⟨rfl, Below.refl _ _⟩

theorem Number_calls (n : Int) (h0 : -9223372036854775808 ≤ n) (h1 : n ≤ 9223372036854775807) (w : World) :
    Calls Tryd.prog 22 #[.int .i64 n] w fun r w' => r = .returned (.string ⟨(Lib.itoa n).toArray⟩) ∧ Below w.heap.size w w' := by
  by_cases hn : 0 ≤ n
  · obtain ⟨k, rfl⟩ := Int.eq_ofNat_of_zero_le hn
    have := Number_pos k h1 w
    rw [← itoa_nat] at this
    exact this
  · by_cases hm : n = -9223372036854775808
    · subst hm; exact Number_min w
    · obtain ⟨k, hk⟩ : ∃ k : Nat, n = -(k : Int) := ⟨n.natAbs, by omega⟩
      subst hk
      exact Number_neg k (by omega) (by omega) w

end Go.Proofs.YtjmpacenlmoldaaDoor
