/-
  The plain mathematics of layer 3 (tokens of a text): blanks and remarks, what a text begins with, its tokens or its first fault. It imports nothing of the program.
-/
import Derived.Lib.Bytealg
namespace Go.Proofs.YtdihplmlbfggjaaDoor.Lx
open Go
namespace Lex

def letterB (b : UInt8) : Bool := (decide (65 ≤ b.toNat) && decide (b.toNat ≤ 90)) || (decide (97 ≤ b.toNat) && decide (b.toNat ≤ 122))
def digitB (b : UInt8) : Bool := decide (48 ≤ b.toNat) && decide (b.toNat ≤ 57)
def wordB (b : UInt8) : Bool := letterB b || digitB b || decide (b.toNat = 95) || decide (b.toNat = 39)
def blankB (b : UInt8) : Bool := decide (b.toNat = 32) || decide (b.toNat = 9) || decide (b.toNat = 10) || decide (b.toNat = 13)
def signL : List UInt8 := [40, 41, 92, 46, 44, 59, 58, 61, 62, 60, 91, 93, 123, 125, 33, 63, 64]
def signB (b : UInt8) : Bool := signL.contains b
def lettersL : List UInt8 := [97, 98, 99, 100, 101, 102, 103, 104, 105, 106, 107, 108, 109, 110, 111, 112, 113, 114, 115, 116, 117, 118, 119, 120, 121, 122, 65, 66, 67, 68, 69, 70, 71, 72, 73, 74, 75, 76, 77, 78, 79, 80, 81, 82, 83, 84, 85, 86, 87, 88, 89, 90]
def digitsL : List UInt8 := [48, 49, 50, 51, 52, 53, 54, 55, 56, 57]
def innerL : List UInt8 := [48, 49, 50, 51, 52, 53, 54, 55, 56, 57, 95, 39]
def gapL : List UInt8 := [32, 9, 10, 13, 35]

theorem all_bytes (p : UInt8 → Prop) (h : ∀ n, n < 256 → p (UInt8.ofNat n)) (b : UInt8) : p b := by
  have := h b.toNat b.toNat_lt
  rwa [UInt8.ofNat_toNat] at this

theorem letters_is (b : UInt8) : lettersL.contains b = letterB b := all_bytes (fun b => lettersL.contains b = letterB b) (by decide +kernel) b
theorem digits_is (b : UInt8) : digitsL.contains b = digitB b := all_bytes (fun b => digitsL.contains b = digitB b) (by decide +kernel) b
theorem inner_is (b : UInt8) : (letterB b || innerL.contains b) = wordB b := all_bytes (fun b => (letterB b || innerL.contains b) = wordB b) (by decide +kernel) b
theorem gap_is (b : UInt8) : gapL.contains b = (blankB b || decide (b.toNat = 35)) := all_bytes (fun b => gapL.contains b = (blankB b || decide (b.toNat = 35))) (by decide +kernel) b

/-- How many bytes of blanks and remarks stand ahead; 'true': within a remark. -/
def gapR : Bool → List UInt8 → Nat
  | _, [] => 0
  | true, b :: r => if b.toNat = 10 then gapR false r + 1 else gapR true r + 1
  | false, b :: r => if blankB b = true then gapR false r + 1 else if b.toNat = 35 then gapR true r + 1 else 0

theorem gapR_le : ∀ (rem : Bool) (l : List UInt8), gapR rem l ≤ l.length := by
  intro rem l
  induction l generalizing rem with
  | nil => cases rem <;> simp [gapR]
  | cons b r ih =>
    have h1 := ih true
    have h2 := ih false
    cases rem <;> simp only [gapR, List.length_cons]
    · split
      · omega
      · split <;> omega
    · split <;> omega

/-- How far a remark goes: up to the next byte 10, or the end. -/
def remLen (l : List UInt8) : Nat := if Lib.indexByte l 10 < 0 then l.length else (Lib.indexByte l 10).toNat

theorem remLen_nil : remLen [] = 0 := by simp [remLen, Lib.indexByte]
theorem remLen_ten (r : List UInt8) : remLen (10 :: r) = 0 := by simp [remLen, Lib.indexByte]
theorem remLen_cons (b : UInt8) (r : List UInt8) (h : ¬ b.toNat = 10) : remLen (b :: r) = remLen r + 1 := by
  have hb : (b == (10 : UInt8)) = false := by
    rw [beq_eq_false_iff_ne]
    intro e; exact h (by rw [e]; rfl)
  have hge := Lib.indexByte_ge r 10
  unfold remLen
  rw [show Lib.indexByte (b :: r) 10 = if Lib.indexByte r 10 == -1 then -1 else Lib.indexByte r 10 + 1 by simp [Lib.indexByte, hb]]
  by_cases h1 : Lib.indexByte r 10 = -1
  · simp [h1]
  · have h2 : (Lib.indexByte r 10 == -1) = false := by simpa using h1
    rw [h2]
    simp only [Bool.false_eq_true, if_false]
    rw [if_neg (by omega), if_neg (by omega)]
    omega

theorem remLen_le (l : List UInt8) : remLen l ≤ l.length := by
  induction l with
  | nil => simp [remLen_nil]
  | cons b r ih =>
    by_cases h : b.toNat = 10
    · obtain rfl : b = 10 := UInt8.toNat_inj.1 (by rw [h]; rfl)
      rw [remLen_ten]; omega
    · rw [remLen_cons b r h]; simp; omega

theorem gapR_true (l : List UInt8) : gapR true l = remLen l + gapR false (l.drop (remLen l)) := by
  induction l with
  | nil => simp [gapR, remLen_nil]
  | cons b r ih =>
    by_cases h : b.toNat = 10
    · obtain rfl : b = 10 := UInt8.toNat_inj.1 (by rw [h]; rfl)
      rw [remLen_ten]
      simp [gapR, blankB]
    · rw [remLen_cons b r h]
      simp only [gapR, if_neg h, List.drop_succ_cons]
      rw [ih]; omega

/-- What a text begins with: its kind (0: no token; 4: the end) and its length. -/
def front (l : List UInt8) : Nat × Nat :=
  match l with
  | [] => (4, 0)
  | b :: _ => if letterB b = true then (1, (l.takeWhile wordB).length) else if digitB b = true then (2, (l.takeWhile digitB).length) else if l.take 2 = [45, 62] then (3, 2) else if signB b = true then (3, 1) else (0, 1)

def check (kd n : Nat) : Nat := if kd = 0 then 3 else if kd = 1 ∧ 30 < n ∨ kd = 2 ∧ 9 < n then 2 else 0

theorem letter_word (b : UInt8) (h : letterB b = true) : wordB b = true := by simp [wordB, h]

theorem front_len (b : UInt8) (r : List UInt8) : 1 ≤ (front (b :: r)).2 ∧ (front (b :: r)).2 ≤ (b :: r).length ∧ (front (b :: r)).1 ≤ 3 := by
  unfold front
  simp only
  split
  · rename_i h
    refine ⟨?_, ?_, by simp⟩
    · simp [List.takeWhile, letter_word b h]
    · exact (List.takeWhile_prefix wordB).length_le
  · split
    · rename_i h
      refine ⟨?_, ?_, by simp⟩
      · simp [List.takeWhile, h]
      · exact (List.takeWhile_prefix digitB).length_le
    · split
      · rename_i h
        refine ⟨by simp, ?_, by simp⟩
        have := congrArg List.length h
        simp [List.length_take] at this
        simp; omega
      · split <;> simp

structure Tok where
  kind : Nat
  text : ByteArray
  pos : Nat

structure Bad where
  code : Nat
  pos : Nat
  word : ByteArray

/-- The first ten bytes. -/
def headB (t : ByteArray) : ByteArray := t.extract 0 (min (t.size : Int) 10).toNat
/-- The word of a fault. -/
def badWord (kd : Nat) (t : ByteArray) : ByteArray := if kd = 0 ∧ ∀ b ∈ t.data.toList, b.toNat < 33 ∨ 126 < b.toNat then ⟨#[]⟩ else headB t

/-- The place behind the gap. -/
def aft (s : ByteArray) (rem : Bool) (k : Nat) : Nat := k + gapR rem (s.data.toList.drop k)
/-- What stands at a place. -/
def fr (s : ByteArray) (a : Nat) : Nat × Nat := front (s.data.toList.drop a)
def badAt (s : ByteArray) (a : Nat) : Bad := ⟨check (fr s a).1 (fr s a).2, a, badWord (fr s a).1 (s.extract a (a + (fr s a).2))⟩
def tokAt (s : ByteArray) (a : Nat) : Tok := ⟨(fr s a).1, s.extract a (a + (fr s a).2), a⟩

/-- The tokens of s from place k on (within a remark there, if 'rem'), and the first fault, if there is one. -/
def run (s : ByteArray) (rem : Bool) (k : Nat) : List Tok × Option Bad :=
  if check (fr s (aft s rem k)).1 (fr s (aft s rem k)).2 ≠ 0 then ([], some (badAt s (aft s rem k)))
  else if _h : (fr s (aft s rem k)).1 ≠ 4 ∧ k < aft s rem k + (fr s (aft s rem k)).2 ∧ aft s rem k + (fr s (aft s rem k)).2 ≤ s.size then
    (tokAt s (aft s rem k) :: (run s false (aft s rem k + (fr s (aft s rem k)).2)).1, (run s false (aft s rem k + (fr s (aft s rem k)).2)).2)
  else ([], none)
  termination_by s.size - k
  decreasing_by all_goals omega

theorem drop_cons (s : ByteArray) (k : Nat) (h : k < s.size) : s.data.toList.drop k = s[k] :: s.data.toList.drop (k + 1) := by
  rw [List.drop_eq_getElem_cons (by simpa using h)]; rfl

theorem aft_le (s : ByteArray) (rem : Bool) (k : Nat) (hk : k ≤ s.size) : k ≤ aft s rem k ∧ aft s rem k ≤ s.size := by
  have hg := gapR_le rem (s.data.toList.drop k)
  have hsz : s.data.toList.length = s.size := by simp
  simp only [List.length_drop] at hg
  unfold aft; omega

theorem fr_at (s : ByteArray) (a : Nat) (ha : a ≤ s.size) : a + (fr s a).2 ≤ s.size ∧ ((fr s a).1 ≠ 4 → a < s.size ∧ 1 ≤ (fr s a).2) ∧ (fr s a).1 ≤ 4 ∧ (a < s.size → (fr s a).1 ≤ 3 ∧ 1 ≤ (fr s a).2) := by
  unfold fr
  by_cases h : a < s.size
  · rw [drop_cons s a h]
    obtain ⟨f1, f2, f3⟩ := front_len s[a] (s.data.toList.drop (a + 1))
    have hl : (s[a] :: s.data.toList.drop (a + 1)).length = s.size - a := by rw [← drop_cons s a h]; simp
    rw [hl] at f2
    exact ⟨by omega, fun _ => ⟨h, f1⟩, by omega, fun _ => ⟨f3, f1⟩⟩
  · have hnil : s.data.toList.drop a = [] := List.drop_eq_nil_of_le (by simp; omega)
    rw [hnil]
    exact ⟨by simp [front]; omega, fun h => absurd rfl h, by simp [front], fun h' => absurd h' h⟩

theorem run_eq (s : ByteArray) (rem : Bool) (k : Nat) (hk : k ≤ s.size) : run s rem k =
    if check (fr s (aft s rem k)).1 (fr s (aft s rem k)).2 ≠ 0 then ([], some (badAt s (aft s rem k)))
    else if (fr s (aft s rem k)).1 = 4 then ([], none)
    else (tokAt s (aft s rem k) :: (run s false (aft s rem k + (fr s (aft s rem k)).2)).1, (run s false (aft s rem k + (fr s (aft s rem k)).2)).2) := by
  obtain ⟨h1, h2⟩ := aft_le s rem k hk
  obtain ⟨f1, f2, f3, f4⟩ := fr_at s _ h2
  rw [run]
  by_cases hc : check (fr s (aft s rem k)).1 (fr s (aft s rem k)).2 ≠ 0
  · rw [if_pos hc, if_pos hc]
  · rw [if_neg hc, if_neg hc]
    by_cases h4 : (fr s (aft s rem k)).1 = 4
    · rw [dif_neg (fun h => h.1 h4), if_pos h4]
    · have := f2 h4
      rw [dif_pos ⟨h4, by omega, f1⟩, if_neg h4]

theorem run_congr (s : ByteArray) (r r' : Bool) (k k' : Nat) (h : aft s r k = aft s r' k') (hk : k ≤ s.size) (hk' : k' ≤ s.size) : run s r k = run s r' k' := by
  rw [run_eq s r k hk, run_eq s r' k' hk', h]

/-- At the end: no token, no fault. -/
theorem run_end (s : ByteArray) (rem : Bool) (k : Nat) (hk : k ≤ s.size) (h : (fr s (aft s rem k)).1 = 4) : run s rem k = ([], none) := by
  have : check (fr s (aft s rem k)).1 (fr s (aft s rem k)).2 = 0 := by rw [h]; simp [check]
  rw [run_eq s rem k hk, if_neg (by simp [this]), if_pos h]

theorem run_bad (s : ByteArray) (rem : Bool) (k : Nat) (hk : k ≤ s.size) (h : check (fr s (aft s rem k)).1 (fr s (aft s rem k)).2 ≠ 0) :
    run s rem k = ([], some (badAt s (aft s rem k))) := by
  rw [run_eq s rem k hk, if_pos h]

theorem run_tok (s : ByteArray) (rem : Bool) (k : Nat) (hk : k ≤ s.size) (h : check (fr s (aft s rem k)).1 (fr s (aft s rem k)).2 = 0) (h4 : (fr s (aft s rem k)).1 ≠ 4) :
    run s rem k = (tokAt s (aft s rem k) :: (run s false (aft s rem k + (fr s (aft s rem k)).2)).1, (run s false (aft s rem k + (fr s (aft s rem k)).2)).2) := by
  rw [run_eq s rem k hk, if_neg (by simp [h]), if_neg h4]

theorem run_last (s : ByteArray) (rem : Bool) : run s rem s.size = ([], none) := by
  refine run_end s rem s.size (Nat.le_refl _) ?_
  obtain ⟨h1, h2⟩ := aft_le s rem s.size (Nat.le_refl _)
  have : aft s rem s.size = s.size := by omega
  rw [this]
  unfold fr
  rw [List.drop_eq_nil_of_le (by simp)]
  rfl

/-- A byte of a gap is passed over. -/
theorem run_skip (s : ByteArray) (rem : Bool) (k : Nat) (hk : k < s.size) (h : (rem || gapL.contains s[k]) = true) :
    run s rem k = run s (decide (¬ s[k].toNat = 10) && (rem || decide (s[k].toNat = 35))) (k + 1) := by
  refine run_congr s _ _ _ _ ?_ (by omega) (by omega)
  unfold aft
  rw [drop_cons s k hk]
  rw [gap_is] at h
  cases rem with
  | true =>
    simp only [gapR, Bool.true_or, Bool.and_true]
    by_cases h10 : s[k].toNat = 10
    · simp only [h10, if_true]; simp; omega
    · simp only [h10, if_false]; simp; omega
  | false =>
    simp only [Bool.false_or] at h ⊢
    simp only [gapR]
    by_cases hb : blankB s[k] = true
    · have h35 : ¬ s[k].toNat = 35 := by
        intro e; simp [blankB, e] at hb
      simp only [hb, if_true, h35]
      simp; omega
    · have h35 : s[k].toNat = 35 := by simpa [hb] using h
      simp only [hb, h35, if_true]
      simp; omega

/-- Where no gap stands, the token is at the place itself. -/
theorem aft_here (s : ByteArray) (k : Nat) (hk : k < s.size) (h : gapL.contains s[k] = false) : aft s false k = k := by
  unfold aft
  rw [drop_cons s k hk]
  rw [gap_is] at h
  simp only [Bool.or_eq_false_iff, decide_eq_false_iff_not] at h
  simp [gapR, h.1, h.2]

/-- Runs of bytes. -/
theorem tw_more (p : UInt8 → Bool) (s : ByteArray) (k : Nat) (hk : k < s.size) (h : p s[k] = true) : ((s.data.toList.drop k).takeWhile p).length = ((s.data.toList.drop (k + 1)).takeWhile p).length + 1 := by
  rw [drop_cons s k hk]; simp [List.takeWhile, h]
theorem tw_stop (p : UInt8 → Bool) (s : ByteArray) (k : Nat) (hk : k < s.size) (h : p s[k] = false) : ((s.data.toList.drop k).takeWhile p).length = 0 := by
  rw [drop_cons s k hk]; simp [List.takeWhile, h]
theorem tw_end (p : UInt8 → Bool) (s : ByteArray) : ((s.data.toList.drop s.size).takeWhile p).length = 0 := by
  rw [List.drop_eq_nil_of_le (by simp)]; rfl
theorem tw_le (p : UInt8 → Bool) (s : ByteArray) (k : Nat) (hk : k ≤ s.size) : k + ((s.data.toList.drop k).takeWhile p).length ≤ s.size := by
  have := (List.takeWhile_prefix p (l := s.data.toList.drop k)).length_le
  simp only [List.length_drop] at this
  have hsz : s.data.toList.length = s.size := by simp
  omega

end Lex
end Go.Proofs.YtdihplmlbfggjaaDoor.Lx
