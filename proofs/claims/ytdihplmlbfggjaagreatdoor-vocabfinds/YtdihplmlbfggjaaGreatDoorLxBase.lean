/-
  LxBase: several texts in one file.
-/
import Derived.Lib.Bytealg
import Derived.RangeFuncNested
import Derived.RangeFuncCalls
import Derived.WalkKit
import Derived.RangeFuncBound
import Derived.RangeFuncLeaves
import Derived.Shelf.Abstract
import Derived.OwnWalkIn
import Derived.TacticsInMore
import Derived.LoopNIn
import Derived.LoopIn
import Derived.WalkSpells
import Derived.Lib.IndexBytes
import Derived.Test.YtdihplmlbfggjaaGreatDoorShelf
import Derived.BigRegion
import Derived.Deep.RegionWith
import Derived.Deep.QuietTactic
import Derived.BigQuiet
import Derived.StillTailTactics
/-
  The plain mathematics of layer 1 (places in a text): lines of a list of bytes, the mark behind so many bytes, and how the two hang together. It imports nothing of the program.
-/
namespace Go.Proofs.YtdihplmlbfggjaaGreatDoor.Lx
open Go
namespace Plain

/-- A mark, one byte further. -/
def step (m : Nat × Nat) (b : UInt8) : Nat × Nat := if b = 10 then (m.1 + 1, 1) else (m.1, m.2 + 1)

/-- The mark behind these bytes. -/
def mark (l : List UInt8) : Nat × Nat := l.foldl step (1, 1)

/-- The lines of 'cur ++ r', where 'cur' stands already in the line that begins at 'st': each with how many bytes stand ahead of it. -/
def lns : Nat → List UInt8 → List UInt8 → List (Nat × List UInt8)
  | st, cur, [] => [(st, cur)]
  | st, cur, b :: r => if b = 10 then (st, cur) :: lns (st + cur.length + 1) [] r else lns st (cur ++ [b]) r

theorem lns_head (st : Nat) (cur r : List UInt8) : ∃ ln tl, lns st cur r = (st, ln) :: tl := by
  induction r generalizing cur with
  | nil => exact ⟨_, _, rfl⟩
  | cons b r ih =>
    unfold lns
    by_cases h : b = 10
    · rw [if_pos h]; exact ⟨_, _, rfl⟩
    · rw [if_neg h]; exact ih _

theorem lns_none (st : Nat) (cur r : List UInt8) (h : Lib.indexByte r 10 < 0) : lns st cur r = [(st, cur ++ r)] := by
  induction r generalizing cur with
  | nil => simp [lns]
  | cons b r ih =>
    unfold Lib.indexByte at h
    have hge := Lib.indexByte_ge r 10
    by_cases hb : b = 10
    · subst hb; simp at h
    · have hb' : (b == (10 : UInt8)) = false := by simp [hb]
      rw [hb'] at h
      simp only [Bool.false_eq_true, if_false] at h
      unfold lns
      rw [if_neg hb, ih]
      · simp
      · by_cases h1 : (Lib.indexByte r 10 == -1) = true
        · have := beq_iff_eq.1 h1; omega
        · rw [if_neg h1] at h; omega

theorem lns_some (st : Nat) (cur r : List UInt8) (k : Nat) (h : Lib.indexByte r 10 = (k : Int)) :
    k < r.length ∧ lns st cur r = (st, cur ++ r.take k) :: lns (st + (cur.length + k) + 1) [] (r.drop (k + 1)) := by
  induction r generalizing cur k with
  | nil => simp [Lib.indexByte] at h
  | cons b r ih =>
    unfold Lib.indexByte at h
    by_cases hb : b = 10
    · subst hb; simp at h
      have : k = 0 := by omega
      subst this
      simp [lns]
    · have hb' : (b == (10 : UInt8)) = false := by simp [hb]
      rw [hb'] at h
      simp only [Bool.false_eq_true, if_false] at h
      by_cases h1 : (Lib.indexByte r 10 == -1) = true
      · rw [if_pos h1] at h; omega
      · rw [if_neg h1] at h
        have hge := Lib.indexByte_ge r 10
        have hne : Lib.indexByte r 10 ≠ -1 := fun e => h1 (by simp [e])
        obtain ⟨j, hj⟩ : ∃ j : Nat, k = j + 1 := ⟨k - 1, by omega⟩
        subst hj
        obtain ⟨i1, i2⟩ := ih (cur ++ [b]) j (by omega)
        refine ⟨by simp; omega, ?_⟩
        have e0 : lns st cur (b :: r) = lns st (cur ++ [b]) r := by simp [lns, hb]
        rw [e0, i2]
        have e1 : st + ((cur ++ [b]).length + j) + 1 = st + (cur.length + (j + 1)) + 1 := by simp; omega
        rw [e1]
        simp

/-- What Of does with the lines that it is given. -/
def ofRun (at_ : Nat) : Nat × Nat → List (Nat × List UInt8) → Nat × Nat
  | m, [] => m
  | m, x :: xs => if at_ < x.1 then m else ofRun at_ (m.1 + 1, at_ - x.1 + 1) xs

theorem ofRun_in (at_ st : Nat) (cur r : List UInt8) (m : Nat × Nat) (h1 : st ≤ at_) (h2 : at_ ≤ st + cur.length) :
    ofRun at_ m (lns st cur r) = (m.1 + 1, at_ - st + 1) := by
  induction r generalizing cur with
  | nil => simp [lns, ofRun]; omega
  | cons b r ih =>
    unfold lns
    by_cases hb : b = 10
    · rw [if_pos hb]
      obtain ⟨ln, tl, e⟩ := lns_head (st + cur.length + 1) [] r
      rw [e]
      simp only [ofRun]
      rw [if_neg (by omega), if_pos (by omega)]
    · rw [if_neg hb]
      exact ih _ (by simp; omega)

theorem ofRun_lns (at_ st : Nat) (cur r : List UInt8) (m : Nat × Nat) (h1 : st + cur.length ≤ at_) (h2 : at_ ≤ st + cur.length + r.length) :
    ofRun at_ m (lns st cur r) = (r.take (at_ - (st + cur.length))).foldl step (m.1 + 1, cur.length + 1) := by
  induction r generalizing cur st m with
  | nil =>
    simp at h2
    have e : at_ = st + cur.length := by omega
    subst e
    have e2 : ¬ st + cur.length < st := by omega
    simp [lns, ofRun, e2]
  | cons b r ih =>
    by_cases he : at_ = st + cur.length
    · rw [ofRun_in at_ st cur (b :: r) m (by omega) (by omega)]
      have e0 : at_ - (st + cur.length) = 0 := by omega
      have e1 : at_ - st = cur.length := by omega
      rw [e0, e1]; simp
    · simp at h2
      obtain ⟨j, hj⟩ : ∃ j, at_ - (st + cur.length) = j + 1 := ⟨at_ - (st + cur.length) - 1, by omega⟩
      rw [hj, List.take_succ_cons, List.foldl_cons]
      unfold lns
      by_cases hb : b = 10
      · rw [if_pos hb]
        simp only [ofRun]
        rw [if_neg (by omega), ih _ _ _ (by simp; omega) (by simp; omega)]
        simp only [step, hb, if_true]
        have e1 : at_ - (st + cur.length + 1 + ([] : List UInt8).length) = j := by simp; omega
        rw [e1]; simp
      · rw [if_neg hb, ih _ _ _ (by simp; omega) (by simp; omega)]
        simp only [step, hb, if_false]
        have e1 : at_ - (st + (cur ++ [b]).length) = j := by simp; omega
        rw [e1]; simp

/-- **Of is the mark.** -/
theorem ofRun_mark (l : List UInt8) (k : Nat) (h : k ≤ l.length) : ofRun k (0, 0) (lns 0 [] l) = mark (l.take k) := by
  rw [ofRun_lns k 0 [] l (0, 0) (by simp) (by simp; omega)]
  simp [mark]

/-- What runs over a front of the lines, and stops at the first that begins behind, is what runs over all. -/
theorem ofRun_stop (at_ : Nat) (m : Nat × Nat) (p : List (Nat × List UInt8)) (x : Nat × List UInt8) (q : List (Nat × List UInt8)) (h : at_ < x.1) (hp : ∀ y ∈ p, ¬ at_ < y.1) :
    ofRun at_ m (p ++ x :: q) = ofRun at_ m p := by
  induction p generalizing m with
  | nil => simp [ofRun, h]
  | cons y p ih =>
    have hy := hp y (by simp)
    simp only [List.cons_append, ofRun, if_neg hy]
    exact ih _ (fun z hz => hp z (by simp [hz]))

theorem mark_bound (l : List UInt8) (m : Nat × Nat) : (l.foldl step m).1 ≤ m.1 + l.length ∧ (l.foldl step m).2 ≤ m.2 + l.length + 1 := by
  induction l generalizing m with
  | nil => simp
  | cons b r ih =>
    have := ih (step m b)
    rw [List.foldl_cons]
    have h1 : (step m b).1 ≤ m.1 + 1 := by unfold step; split <;> simp
    have h2 : (step m b).2 ≤ m.2 + 1 := by unfold step; split <;> simp
    simp only [List.length_cons]
    omega

theorem lns_bound (r : List UInt8) : ∀ (st : Nat) (cur : List UInt8), (lns st cur r).length ≤ r.length + 1 ∧ ∀ x ∈ lns st cur r, x.1 + x.2.length ≤ st + cur.length + r.length := by
  induction r with
  | nil => intro st cur; simp [lns]
  | cons b r ih =>
    intro st cur
    unfold lns
    by_cases hb : b = 10
    · rw [if_pos hb]
      obtain ⟨h1, h2⟩ := ih (st + cur.length + 1) []
      refine ⟨by simp; omega, ?_⟩
      intro x hx
      rcases List.mem_cons.1 hx with rfl | hx
      · simp
      · have := h2 x hx; simp at this ⊢; omega
    · rw [if_neg hb]
      obtain ⟨h1, h2⟩ := ih st (cur ++ [b])
      refine ⟨by simp; omega, ?_⟩
      intro x hx
      have := h2 x hx; simp at this ⊢; omega

end Plain
end Go.Proofs.YtdihplmlbfggjaaGreatDoor.Lx

/-
  The plain mathematics of layer 3 (tokens of a text): blanks and remarks, what a text begins with, its tokens or its first fault. It imports nothing of the program.
-/
namespace Go.Proofs.YtdihplmlbfggjaaGreatDoor.Lx
open Go
namespace Lex

def letterB (b : UInt8) : Bool := (decide (65 ≤ b.toNat) && decide (b.toNat ≤ 90)) || (decide (97 ≤ b.toNat) && decide (b.toNat ≤ 122))
def digitB (b : UInt8) : Bool := decide (48 ≤ b.toNat) && decide (b.toNat ≤ 57)
def wordB (b : UInt8) : Bool := letterB b || digitB b || decide (b.toNat = 95) || decide (b.toNat = 39)
def blankB (b : UInt8) : Bool := decide (b.toNat = 32) || decide (b.toNat = 9) || decide (b.toNat = 10) || decide (b.toNat = 13)
def signL : List UInt8 := [40, 41, 92, 46, 44, 59, 58, 61, 62, 60, 91, 93, 123, 125, 33, 63, 64]
def signB (b : UInt8) : Bool := signL.contains b
def lettersL : List UInt8 := [97, 98, 99, 100, 101, 102, 103, 104, 105, 106, 107, 108, 109, 110, 111, 112, 113, 114, 115, 116, 117, 118, 119, 120, 121, 122, 65, 66, 67, 68, 69, 70, 71, 72, 73, 74, 75, 76, 77, 78, 79, 80, 81, 82, 83, 84, 85, 86, 87, 88, 89, 90]
def digitsL : List UInt8 := [48, 49, 50, 51, 52, 53, 54, 55, 56, 57]
def innerL : List UInt8 := [48, 49, 50, 51, 52, 53, 54, 55, 56, 57, 95, 39]
def gapL : List UInt8 := [32, 9, 10, 13, 35]

theorem all_bytes (p : UInt8 → Prop) (h : ∀ n, n < 256 → p (UInt8.ofNat n)) (b : UInt8) : p b := by
  have := h b.toNat b.toNat_lt
  rwa [UInt8.ofNat_toNat] at this

theorem letters_is (b : UInt8) : lettersL.contains b = letterB b := all_bytes (fun b => lettersL.contains b = letterB b) (by decide +kernel) b
theorem digits_is (b : UInt8) : digitsL.contains b = digitB b := all_bytes (fun b => digitsL.contains b = digitB b) (by decide +kernel) b
theorem inner_is (b : UInt8) : (letterB b || innerL.contains b) = wordB b := all_bytes (fun b => (letterB b || innerL.contains b) = wordB b) (by decide +kernel) b
theorem gap_is (b : UInt8) : gapL.contains b = (blankB b || decide (b.toNat = 35)) := all_bytes (fun b => gapL.contains b = (blankB b || decide (b.toNat = 35))) (by decide +kernel) b

/-- How many bytes of blanks and remarks stand ahead; 'true': within a remark. -/
def gapR : Bool → List UInt8 → Nat
  | _, [] => 0
  | true, b :: r => if b.toNat = 10 then gapR false r + 1 else gapR true r + 1
  | false, b :: r => if blankB b = true then gapR false r + 1 else if b.toNat = 35 then gapR true r + 1 else 0

theorem gapR_le : ∀ (rem : Bool) (l : List UInt8), gapR rem l ≤ l.length := by
  intro rem l
  induction l generalizing rem with
  | nil => cases rem <;> simp [gapR]
  | cons b r ih =>
    have h1 := ih true
    have h2 := ih false
    cases rem <;> simp only [gapR, List.length_cons]
    · split
      · omega
      · split <;> omega
    · split <;> omega

/-- How far a remark goes: up to the next byte 10, or the end. -/
def remLen (l : List UInt8) : Nat := if Lib.indexByte l 10 < 0 then l.length else (Lib.indexByte l 10).toNat

theorem remLen_nil : remLen [] = 0 := by simp [remLen, Lib.indexByte]
theorem remLen_ten (r : List UInt8) : remLen (10 :: r) = 0 := by simp [remLen, Lib.indexByte]
theorem remLen_cons (b : UInt8) (r : List UInt8) (h : ¬ b.toNat = 10) : remLen (b :: r) = remLen r + 1 := by
  have hb : (b == (10 : UInt8)) = false := by
    rw [beq_eq_false_iff_ne]
    intro e; exact h (by rw [e]; rfl)
  have hge := Lib.indexByte_ge r 10
  unfold remLen
  rw [show Lib.indexByte (b :: r) 10 = if Lib.indexByte r 10 == -1 then -1 else Lib.indexByte r 10 + 1 by simp [Lib.indexByte, hb]]
  by_cases h1 : Lib.indexByte r 10 = -1
  · simp [h1]
  · have h2 : (Lib.indexByte r 10 == -1) = false := by simpa using h1
    rw [h2]
    simp only [Bool.false_eq_true, if_false]
    rw [if_neg (by omega), if_neg (by omega)]
    omega

theorem remLen_le (l : List UInt8) : remLen l ≤ l.length := by
  induction l with
  | nil => simp [remLen_nil]
  | cons b r ih =>
    by_cases h : b.toNat = 10
    · obtain rfl : b = 10 := UInt8.toNat_inj.1 (by rw [h]; rfl)
      rw [remLen_ten]; omega
    · rw [remLen_cons b r h]; simp; omega

theorem gapR_true (l : List UInt8) : gapR true l = remLen l + gapR false (l.drop (remLen l)) := by
  induction l with
  | nil => simp [gapR, remLen_nil]
  | cons b r ih =>
    by_cases h : b.toNat = 10
    · obtain rfl : b = 10 := UInt8.toNat_inj.1 (by rw [h]; rfl)
      rw [remLen_ten]
      simp [gapR, blankB]
    · rw [remLen_cons b r h]
      simp only [gapR, if_neg h, List.drop_succ_cons]
      rw [ih]; omega

/-- What a text begins with: its kind (0: no token; 4: the end) and its length. -/
def front (l : List UInt8) : Nat × Nat :=
  match l with
  | [] => (4, 0)
  | b :: _ => if letterB b = true then (1, (l.takeWhile wordB).length) else if digitB b = true then (2, (l.takeWhile digitB).length) else if l.take 2 = [45, 62] then (3, 2) else if signB b = true then (3, 1) else (0, 1)

def check (kd n : Nat) : Nat := if kd = 0 then 3 else if kd = 1 ∧ 30 < n ∨ kd = 2 ∧ 9 < n then 2 else 0

theorem letter_word (b : UInt8) (h : letterB b = true) : wordB b = true := by simp [wordB, h]

theorem front_len (b : UInt8) (r : List UInt8) : 1 ≤ (front (b :: r)).2 ∧ (front (b :: r)).2 ≤ (b :: r).length ∧ (front (b :: r)).1 ≤ 3 := by
  unfold front
  simp only
  split
  · rename_i h
    refine ⟨?_, ?_, by simp⟩
    · simp [List.takeWhile, letter_word b h]
    · exact (List.takeWhile_prefix wordB).length_le
  · split
    · rename_i h
      refine ⟨?_, ?_, by simp⟩
      · simp [List.takeWhile, h]
      · exact (List.takeWhile_prefix digitB).length_le
    · split
      · rename_i h
        refine ⟨by simp, ?_, by simp⟩
        have := congrArg List.length h
        simp [List.length_take] at this
        simp; omega
      · split <;> simp

structure Tok where
  kind : Nat
  text : ByteArray
  pos : Nat

structure Bad where
  code : Nat
  pos : Nat
  word : ByteArray

/-- The first ten bytes. -/
def headB (t : ByteArray) : ByteArray := t.extract 0 (min (t.size : Int) 10).toNat
/-- The word of a fault. -/
def badWord (kd : Nat) (t : ByteArray) : ByteArray := if kd = 0 ∧ ∀ b ∈ t.data.toList, b.toNat < 33 ∨ 126 < b.toNat then ⟨#[]⟩ else headB t

/-- The place behind the gap. -/
def aft (s : ByteArray) (rem : Bool) (k : Nat) : Nat := k + gapR rem (s.data.toList.drop k)
/-- What stands at a place. -/
def fr (s : ByteArray) (a : Nat) : Nat × Nat := front (s.data.toList.drop a)
def badAt (s : ByteArray) (a : Nat) : Bad := ⟨check (fr s a).1 (fr s a).2, a, badWord (fr s a).1 (s.extract a (a + (fr s a).2))⟩
def tokAt (s : ByteArray) (a : Nat) : Tok := ⟨(fr s a).1, s.extract a (a + (fr s a).2), a⟩

/-- The tokens of s from place k on (within a remark there, if 'rem'), and the first fault, if there is one. -/
def run (s : ByteArray) (rem : Bool) (k : Nat) : List Tok × Option Bad :=
  if check (fr s (aft s rem k)).1 (fr s (aft s rem k)).2 ≠ 0 then ([], some (badAt s (aft s rem k)))
  else if _h : (fr s (aft s rem k)).1 ≠ 4 ∧ k < aft s rem k + (fr s (aft s rem k)).2 ∧ aft s rem k + (fr s (aft s rem k)).2 ≤ s.size then
    (tokAt s (aft s rem k) :: (run s false (aft s rem k + (fr s (aft s rem k)).2)).1, (run s false (aft s rem k + (fr s (aft s rem k)).2)).2)
  else ([], none)
  termination_by s.size - k
  decreasing_by all_goals omega

theorem drop_cons (s : ByteArray) (k : Nat) (h : k < s.size) : s.data.toList.drop k = s[k] :: s.data.toList.drop (k + 1) := by
  rw [List.drop_eq_getElem_cons (by simpa using h)]; rfl

theorem aft_le (s : ByteArray) (rem : Bool) (k : Nat) (hk : k ≤ s.size) : k ≤ aft s rem k ∧ aft s rem k ≤ s.size := by
  have hg := gapR_le rem (s.data.toList.drop k)
  have hsz : s.data.toList.length = s.size := by simp
  simp only [List.length_drop] at hg
  unfold aft; omega

theorem fr_at (s : ByteArray) (a : Nat) (ha : a ≤ s.size) : a + (fr s a).2 ≤ s.size ∧ ((fr s a).1 ≠ 4 → a < s.size ∧ 1 ≤ (fr s a).2) ∧ (fr s a).1 ≤ 4 ∧ (a < s.size → (fr s a).1 ≤ 3 ∧ 1 ≤ (fr s a).2) := by
  unfold fr
  by_cases h : a < s.size
  · rw [drop_cons s a h]
    obtain ⟨f1, f2, f3⟩ := front_len s[a] (s.data.toList.drop (a + 1))
    have hl : (s[a] :: s.data.toList.drop (a + 1)).length = s.size - a := by rw [← drop_cons s a h]; simp
    rw [hl] at f2
    exact ⟨by omega, fun _ => ⟨h, f1⟩, by omega, fun _ => ⟨f3, f1⟩⟩
  · have hnil : s.data.toList.drop a = [] := List.drop_eq_nil_of_le (by simp; omega)
    rw [hnil]
    exact ⟨by simp [front]; omega, fun h => absurd rfl h, by simp [front], fun h' => absurd h' h⟩

theorem run_eq (s : ByteArray) (rem : Bool) (k : Nat) (hk : k ≤ s.size) : run s rem k =
    if check (fr s (aft s rem k)).1 (fr s (aft s rem k)).2 ≠ 0 then ([], some (badAt s (aft s rem k)))
    else if (fr s (aft s rem k)).1 = 4 then ([], none)
    else (tokAt s (aft s rem k) :: (run s false (aft s rem k + (fr s (aft s rem k)).2)).1, (run s false (aft s rem k + (fr s (aft s rem k)).2)).2) := by
  obtain ⟨h1, h2⟩ := aft_le s rem k hk
  obtain ⟨f1, f2, f3, f4⟩ := fr_at s _ h2
  rw [run]
  by_cases hc : check (fr s (aft s rem k)).1 (fr s (aft s rem k)).2 ≠ 0
  · rw [if_pos hc, if_pos hc]
  · rw [if_neg hc, if_neg hc]
    by_cases h4 : (fr s (aft s rem k)).1 = 4
    · rw [dif_neg (fun h => h.1 h4), if_pos h4]
    · have := f2 h4
      rw [dif_pos ⟨h4, by omega, f1⟩, if_neg h4]

theorem run_congr (s : ByteArray) (r r' : Bool) (k k' : Nat) (h : aft s r k = aft s r' k') (hk : k ≤ s.size) (hk' : k' ≤ s.size) : run s r k = run s r' k' := by
  rw [run_eq s r k hk, run_eq s r' k' hk', h]

/-- At the end: no token, no fault. -/
theorem run_end (s : ByteArray) (rem : Bool) (k : Nat) (hk : k ≤ s.size) (h : (fr s (aft s rem k)).1 = 4) : run s rem k = ([], none) := by
  have : check (fr s (aft s rem k)).1 (fr s (aft s rem k)).2 = 0 := by rw [h]; simp [check]
  rw [run_eq s rem k hk, if_neg (by simp [this]), if_pos h]

theorem run_bad (s : ByteArray) (rem : Bool) (k : Nat) (hk : k ≤ s.size) (h : check (fr s (aft s rem k)).1 (fr s (aft s rem k)).2 ≠ 0) :
    run s rem k = ([], some (badAt s (aft s rem k))) := by
  rw [run_eq s rem k hk, if_pos h]

theorem run_tok (s : ByteArray) (rem : Bool) (k : Nat) (hk : k ≤ s.size) (h : check (fr s (aft s rem k)).1 (fr s (aft s rem k)).2 = 0) (h4 : (fr s (aft s rem k)).1 ≠ 4) :
    run s rem k = (tokAt s (aft s rem k) :: (run s false (aft s rem k + (fr s (aft s rem k)).2)).1, (run s false (aft s rem k + (fr s (aft s rem k)).2)).2) := by
  rw [run_eq s rem k hk, if_neg (by simp [h]), if_neg h4]

theorem run_last (s : ByteArray) (rem : Bool) : run s rem s.size = ([], none) := by
  refine run_end s rem s.size (Nat.le_refl _) ?_
  obtain ⟨h1, h2⟩ := aft_le s rem s.size (Nat.le_refl _)
  have : aft s rem s.size = s.size := by omega
  rw [this]
  unfold fr
  rw [List.drop_eq_nil_of_le (by simp)]
  rfl

/-- A byte of a gap is passed over. -/
theorem run_skip (s : ByteArray) (rem : Bool) (k : Nat) (hk : k < s.size) (h : (rem || gapL.contains s[k]) = true) :
    run s rem k = run s (decide (¬ s[k].toNat = 10) && (rem || decide (s[k].toNat = 35))) (k + 1) := by
  refine run_congr s _ _ _ _ ?_ (by omega) (by omega)
  unfold aft
  rw [drop_cons s k hk]
  rw [gap_is] at h
  cases rem with
  | true =>
    simp only [gapR, Bool.true_or, Bool.and_true]
    by_cases h10 : s[k].toNat = 10
    · simp only [h10, if_true]; simp; omega
    · simp only [h10, if_false]; simp; omega
  | false =>
    simp only [Bool.false_or] at h ⊢
    simp only [gapR]
    by_cases hb : blankB s[k] = true
    · have h35 : ¬ s[k].toNat = 35 := by
        intro e; simp [blankB, e] at hb
      simp only [hb, if_true, h35]
      simp; omega
    · have h35 : s[k].toNat = 35 := by simpa [hb] using h
      simp only [hb, h35, if_true]
      simp; omega

/-- Where no gap stands, the token is at the place itself. -/
theorem aft_here (s : ByteArray) (k : Nat) (hk : k < s.size) (h : gapL.contains s[k] = false) : aft s false k = k := by
  unfold aft
  rw [drop_cons s k hk]
  rw [gap_is] at h
  simp only [Bool.or_eq_false_iff, decide_eq_false_iff_not] at h
  simp [gapR, h.1, h.2]

/-- Runs of bytes. -/
theorem tw_more (p : UInt8 → Bool) (s : ByteArray) (k : Nat) (hk : k < s.size) (h : p s[k] = true) : ((s.data.toList.drop k).takeWhile p).length = ((s.data.toList.drop (k + 1)).takeWhile p).length + 1 := by
  rw [drop_cons s k hk]; simp [List.takeWhile, h]
theorem tw_stop (p : UInt8 → Bool) (s : ByteArray) (k : Nat) (hk : k < s.size) (h : p s[k] = false) : ((s.data.toList.drop k).takeWhile p).length = 0 := by
  rw [drop_cons s k hk]; simp [List.takeWhile, h]
theorem tw_end (p : UInt8 → Bool) (s : ByteArray) : ((s.data.toList.drop s.size).takeWhile p).length = 0 := by
  rw [List.drop_eq_nil_of_le (by simp)]; rfl
theorem tw_le (p : UInt8 → Bool) (s : ByteArray) (k : Nat) (hk : k ≤ s.size) : k + ((s.data.toList.drop k).takeWhile p).length ≤ s.size := by
  have := (List.takeWhile_prefix p (l := s.data.toList.drop k)).length_le
  simp only [List.length_drop] at this
  have hsz : s.data.toList.length = s.size := by simp
  omega

end Lex
end Go.Proofs.YtdihplmlbfggjaaGreatDoor.Lx

/-
  Blocks of several cells (a struct's box, a struct result's slot), as facts that go along through a walk: what such a block holds, and that other stores, new blocks and the loop's book-keeping leave it.
-/
namespace Go.Proofs.YtdihplmlbfggjaaGreatDoor.Lx
open Go Go.RowKit

/-- BLOCK B HOLDS JUST THESE CELLS, of type t, none of them frozen. -/
def Blk (W : World) (B : Nat) (t : TypeId) (vs : Array Value) : Prop := W.heap[B]? = some (.cells vs t (0, 0))

theorem Blk.lt {W : World} {B : Nat} {t : TypeId} {vs : Array Value} (h : Blk W B t vs) : B < W.heap.size := (Array.getElem?_eq_some_iff.1 h).1
theorem Blk.cell {W : World} {B : Nat} {t : TypeId} {vs : Array Value} (h : Blk W B t vs) (i : Nat) : W.cell? ⟨B, i, none⟩ = vs[i]? := by simp [World.cell?, show W.heap[B]? = _ from h]
theorem Blk.frozen {W : World} {B : Nat} {t : TypeId} {vs : Array Value} (h : Blk W B t vs) (i : Nat) : W.frozen? ⟨B, i, none⟩ = false := by simp [World.frozen?, show W.heap[B]? = _ from h]
theorem Blk.new (W : World) (t : TypeId) (vs : Array Value) : Blk (W.alloc (.cells vs t)) W.heap.size t vs := World.alloc_heap_new W _
theorem Blk.new' (W : World) (B : Nat) (t : TypeId) (vs : Array Value) (h : W.heap.size = B) : Blk (W.alloc (.cells vs t)) B t vs := by subst h; exact World.alloc_heap_new W _
theorem Blk.kept {W W' : World} {row : Option Nat} {B : Nat} {t : TypeId} {vs : Array Value} (h : Blk W B t vs) (hg : W.grownBy W' row) (hne : some B ≠ row) : Blk W' B t vs := (hg.block B h.lt hne).trans h
theorem Blk.alloc {W : World} {B : Nat} {t : TypeId} {vs : Array Value} (h : Blk W B t vs) (o : Obj) : Blk (W.alloc o) B t vs := h.kept (World.grownBy_alloc W o none) (by simp)
theorem Blk.own {W W' : World} {row : Option Nat} {B : Nat} {t : TypeId} {vs : Array Value} (h : Blk W B t vs) (hg : W.grownBy W' row) (hr : ∀ r, row = some r → ∃ o : Obj, W.heap[r]? = some o ∧ o.isCells = false) : Blk W' B t vs :=
  h.kept hg (fun e' => by obtain ⟨o, ho, hc⟩ := hr B e'.symm; rw [show W.heap[B]? = _ from h] at ho; cases ho; cases hc)
theorem Blk.below {W W' : World} {n B : Nat} {t : TypeId} {vs : Array Value} (h : Blk W B t vs) (hb : Below n W W') (hB : B < n) : Blk W' B t vs := (hb.block B hB).trans h
theorem grownBy_setCell_at (W : World) (b i : Nat) (v : Value) : W.grownBy (W.setCell ⟨b, i, none⟩ v) (some b) :=
  ⟨rfl, rfl, rfl, (KeepsWalks.setCell W _ v).size, fun k _ hk => Below.heap_setCell _ _ _ k (fun e => hk (by rw [e]))⟩
theorem Blk.other {W : World} {B B' : Nat} {t : TypeId} {vs : Array Value} (h : Blk W B t vs) (hne : B ≠ B') (i : Nat) (u : Value) : Blk (W.setCell ⟨B', i, none⟩ u) B t vs :=
  h.kept (grownBy_setCell_at W B' i u) (fun e => hne (by cases e; rfl))
theorem Blk.set {W : World} {B : Nat} {t : TypeId} {vs : Array Value} (h : Blk W B t vs) (i : Nat) (v' : Value) : Blk (W.setCell ⟨B, i, none⟩ v') B t (vs.setIfInBounds i v') := by
  obtain ⟨hlt, hk⟩ := Array.getElem?_eq_some_iff.1 h
  show (W.heap.modify B _)[B]? = _
  rw [Array.getElem?_eq_getElem (by rw [Array.size_modify]; exact hlt), Array.getElem_modify_self, hk]
  rfl
theorem bset {n B i : Nat} {a w : World} (h : Below n a w) (hB : n ≤ B) (u : Value) : Below n a (w.setCell ⟨B, i, none⟩ u) := h.setCell (p := ⟨B, i, none⟩) hB u
theorem Blk.drew {W : World} {B : Nat} {t : TypeId} {vs : Array Value} (h : Blk W B t vs) : Blk W.drew B t vs := h
theorem Blk.put {W : World} {B : Nat} {t : TypeId} {vs : Array Value} (h : Blk W B t vs) {l : Nat} {o : Obj} (o' : Obj) (hl : W.heap[l]? = some o) (ho : o.isCells = false) : Blk (W.putObj l o') B t vs :=
  h.own (grownBy_putObj' W l o') (fun r e => by cases e; exact ⟨_, hl, ho⟩)

end Go.Proofs.YtdihplmlbfggjaaGreatDoor.Lx

/-
  Worlds that differ in some blocks alone.
-/
namespace Go.Proofs.YtdihplmlbfggjaaGreatDoor.Lx
open Go Go.RowKit

/-- BUT FOR THE BLOCKS OF S (and new ones) THE WORLD w' IS AS w WAS. -/
structure Only (S : List Nat) (w w' : World) : Prop where
  os : w'.os = w.os
  tape : w'.tape = w.tape
  output : w'.output = w.output
  size : w.heap.size ≤ w'.heap.size
  block : ∀ k, k < w.heap.size → k ∉ S → w'.heap[k]? = w.heap[k]?

theorem Only.refl (S : List Nat) (w : World) : Only S w w := ⟨rfl, rfl, rfl, Nat.le_refl _, fun _ _ _ => rfl⟩
theorem Only.trans {S : List Nat} {a b c : World} (h : Only S a b) (k : Only S b c) : Only S a c :=
  ⟨k.os.trans h.os, k.tape.trans h.tape, k.output.trans h.output, Nat.le_trans h.size k.size, fun i hi hs => (k.block i (Nat.lt_of_lt_of_le hi h.size) hs).trans (h.block i hi hs)⟩
theorem Only.mono {S T : List Nat} {w w' : World} (h : Only S w w') (hs : ∀ k ∈ S, k < w.heap.size → k ∈ T) : Only T w w' :=
  ⟨h.os, h.tape, h.output, h.size, fun k hk hn => h.block k hk (fun hm => hn (hs k hm hk))⟩
theorem Only.drew {S : List Nat} {a w : World} (h : Only S a w) : Only S a w.drew := ⟨h.os, h.tape, h.output, h.size, h.block⟩
theorem Only.alloc {S : List Nat} {a w : World} (h : Only S a w) (o : Obj) : Only S a (w.alloc o) :=
  h.trans ⟨rfl, rfl, rfl, by simp, fun k hk _ => Below.heap_alloc _ _ _ hk⟩
theorem Only.set {S : List Nat} {a w : World} (h : Only S a w) {B : Nat} (hB : B ∈ S) (i : Nat) (u : Value) : Only S a (w.setCell ⟨B, i, none⟩ u) :=
  h.trans ⟨rfl, rfl, rfl, by simp [World.setCell], fun k _ hs => Below.heap_setCell _ _ _ _ (fun e => hs (by rw [e]; exact hB))⟩
/-- a store into a block that is new against a -/
theorem Only.setNew {S : List Nat} {a w : World} (h : Only S a w) {B : Nat} (hB : a.heap.size ≤ B) (i : Nat) (u : Value) : Only S a (w.setCell ⟨B, i, none⟩ u) :=
  ⟨h.os, h.tape, h.output, by simpa [World.setCell] using h.size, fun k hk hs => (Below.heap_setCell w ⟨B, i, none⟩ u k (show k ≠ B by omega)).trans (h.block k hk hs)⟩
/-- behind a world that is older: what S holds may be new against a -/
theorem Only.then {S T : List Nat} {a b c : World} (h : Only S a b) (k : Only T b c) (hs : ∀ x ∈ T, x < a.heap.size → x ∈ S) : Only S a c :=
  ⟨k.os.trans h.os, k.tape.trans h.tape, k.output.trans h.output, Nat.le_trans h.size k.size, fun i hi hn => (k.block i (Nat.lt_of_lt_of_le hi h.size) (fun hm => hn (hs i hm hi))).trans (h.block i hi hn)⟩
theorem Only.below {S : List Nat} {w w' : World} (h : Only S w w') {n : Nat} (hn : n ≤ w.heap.size) (hs : ∀ k ∈ S, n ≤ k) : Below n w w' :=
  ⟨h.os, h.tape, h.output, h.size, fun k hk => h.block k (by omega) (fun hm => by have := hs k hm; omega)⟩
theorem Blk.only {S : List Nat} {W W' : World} {B : Nat} {t : TypeId} {vs : Array Value} (h : Blk W B t vs) (hk : Only S W W') (hB : B ∉ S) : Blk W' B t vs := (hk.block B h.lt hB).trans h
theorem Only.cell {S : List Nat} {w w' : World} (h : Only S w w') {p : Addr} (hp : p.block < w.heap.size) (hs : p.block ∉ S) : w'.cell? p = w.cell? p := World.cell?_of_block (w := w) (h.block p.block hp hs)

theorem Only.of_below {S : List Nat} {w w' : World} {n : Nat} (h : Below n w w') (hn : ∀ k, n ≤ k → k < w.heap.size → k ∈ S) : Only S w w' :=
  ⟨h.os, h.tape, h.output, h.size, fun k hk hs => h.block k (Nat.lt_of_not_le fun hle => hs (hn k hle hk))⟩
theorem Only.of_below' {S : List Nat} {w w' : World} (h : Below w.heap.size w w') : Only S w w' := Only.of_below h (fun k h1 h2 => by omega)

end Go.Proofs.YtdihplmlbfggjaaGreatDoor.Lx

/-
  The contract of the function that place.lines hands back: it gives each line of a text, with how many bytes stand ahead of it, to whatever loop body, till one says that it wants no more.
-/
namespace Go.Proofs.YtdihplmlbfggjaaGreatDoor.Lx
open Go Go.RowKit Go.Shelf Plain

attribute [local go_sem] Oper.semAt_some

/-- What a round is handed. -/
abbrev encs (x : Int × ByteArray) : Array Value := #[.int .i64 x.1, .string x.2]
/-- A line as a round is handed it. -/
def conv (x : Nat × List UInt8) : Int × ByteArray := ((x.1 : Int), ⟨x.2.toArray⟩)
/-- All lines of a text. -/
def allLines (s : ByteArray) : List (Int × ByteArray) := (lns 0 [] s.data.toList).map conv

/-- What a round that goes on keeps: the box that holds the text. -/
def Keeps (B : Nat) (s : ByteArray) (W W' : World) : Prop := W.cell? ⟨B, 0, none⟩ = some (.string s) → W'.cell? ⟨B, 0, none⟩ = some (.string s)

theorem idx_none (s : ByteArray) (k : Nat) (w : World) (h : Lib.indexByte (s.data.toList.drop k) 10 < 0) :
    Calls Tryz.prog 81 #[.string (s.extract k s.size), .int .u8 10] w fun e w' => e = .returned (.int .i64 (-1)) ∧ w' = w := by
  refine (Tryz.strings_IndexByte _ _ _).mono ?_
  rintro e w' ⟨rfl, rfl⟩
  have hge := Lib.indexByte_ge (s.data.toList.drop k) 10
  have e1 : Lib.indexByte (s.extract k s.size).data.toList (10 : Int).toNat.toUInt8 = -1 := by
    rw [Lib.extract_to_end]
    have e2 : (10 : Int).toNat.toUInt8 = 10 := by decide
    rw [e2]; omega
  rw [e1]
  exact ⟨rfl, rfl⟩

theorem idx_some (s : ByteArray) (k : Nat) (w : World) (j : Nat) (h : Lib.indexByte (s.data.toList.drop k) 10 = (j : Int)) :
    Calls Tryz.prog 81 #[.string (s.extract k s.size), .int .u8 10] w fun e w' => e = .returned (.int .i64 j) ∧ w' = w := by
  refine (Tryz.strings_IndexByte _ _ _).mono ?_
  rintro e w' ⟨rfl, rfl⟩
  have e1 : Lib.indexByte (s.extract k s.size).data.toList (10 : Int).toNat.toUInt8 = j := by
    rw [Lib.extract_to_end]
    have e2 : (10 : Int).toNat.toUInt8 = 10 := by decide
    rw [e2, h]
  rw [e1]
  exact ⟨rfl, rfl⟩

theorem conv_last (s : ByteArray) (k : Nat) : conv (k, s.data.toList.drop k) = ((k : Int), s.extract k s.size) := by
  unfold conv
  rw [← Lib.extract_to_end]
theorem conv_mid (s : ByteArray) (k j : Nat) : conv (k, (s.data.toList.drop k).take j) = ((k : Int), s.extract k (k + j)) := by
  unfold conv
  have : (s.data.toList.drop k).take j = (s.extract k (k + j)).data.toList := by rw [Lib.extract_data]; congr 1; omega
  rw [this]

end Go.Proofs.YtdihplmlbfggjaaGreatDoor.Lx

/-
  The contract of place.Of: the place that so many bytes stand ahead of (as at stage 1, over this program's numbers).
-/
namespace Go.Proofs.YtdihplmlbfggjaaGreatDoor.Lx
open Go Go.RowKit Go.Shelf Plain

attribute [local go_sem] Oper.semAt_some

theorem keeps_t {B : Nat} {s : ByteArray} {A C D : World} (h : Keeps B s A C) (k : Keeps B s C D) : Keeps B s A D := fun hc => k (h hc)
theorem keeps_b {B : Nat} {s : ByteArray} {w : World} (W : World) (l : Nat) (o o' : Obj) (_ : w.heap.size ≤ l) (h : W.heap[l]? = some o) (hc : o.isCells = false) (_ : o.isWalk = false) : Keeps B s W (W.putObj l o') :=
  fun hq => cell_kept hq (grownBy_putObj' _ l _) (fun r e => by cases e; exact ⟨_, h, hc⟩)

/-- What Of's rounds make of the place, as the machine reckons. -/
def ofAcc (k : Int) (pre : List (Int × ByteArray)) : Int × Int := pre.foldl (fun m y => (m.1 + 1, wrap64 (wrap64 (k - y.1) + 1))) (0, 0)
theorem ofAcc_snoc (k : Int) (pre : List (Int × ByteArray)) (x : Int × ByteArray) : ofAcc k (pre ++ [x]) = ((ofAcc k pre).1 + 1, wrap64 (wrap64 (k - x.1) + 1)) := by simp [ofAcc]
theorem ofAcc_fst (k : Int) (pre : List (Int × ByteArray)) : (ofAcc k pre).1 = (pre.length : Int) := by
  have : ∀ (l : List (Int × ByteArray)) (m : Int × Int), (l.foldl (fun m y => (m.1 + 1, wrap64 (wrap64 (k - y.1) + 1))) m).1 = m.1 + l.length := by
    intro l
    induction l with
    | nil => intro m; simp
    | cons y l ih => intro m; rw [List.foldl_cons, ih]; simp; omega
  have h := this pre (0, 0)
  unfold ofAcc; rw [h]; simp

theorem wrap_sub_add (a b : Int) (h0 : 0 ≤ b) (h1 : b ≤ a) (h2 : a ≤ 4611686018427387904) : wrap64 (wrap64 (a - b) + 1) = a - b + 1 := by
  have e : wrap64 (a - b) = a - b := by unfold wrap64; omega
  rw [e]; unfold wrap64; omega

theorem ofAcc_run (k : Nat) (hk : k ≤ 4611686018427387904) (p : List (Nat × List UInt8)) (h : ∀ y ∈ p, ¬ k < y.1) :
    ofAcc k (p.map conv) = (((ofRun k (0, 0) p).1 : Int), ((ofRun k (0, 0) p).2 : Int)) := by
  have : ∀ (p : List (Nat × List UInt8)) (m : Nat × Nat), (∀ y ∈ p, ¬ k < y.1) → (p.map conv).foldl (fun m y => (m.1 + 1, wrap64 (wrap64 ((k : Int) - y.1) + 1))) ((m.1 : Int), (m.2 : Int)) = (((ofRun k m p).1 : Int), ((ofRun k m p).2 : Int)) := by
    intro p
    induction p with
    | nil => intro m _; simp [ofRun]
    | cons y p ih =>
      intro m hm
      have hy := hm y (by simp)
      simp only [List.map_cons, List.foldl_cons, ofRun, if_neg hy]
      rw [← ih _ (fun z hz => hm z (by simp [hz]))]
      congr 1
      simp only [conv]
      rw [wrap_sub_add _ _ (by omega) (by omega) (by omega)]
      congr 1 <;> omega
  exact this p (0, 0) h

/-- All lines that begin at or ahead of k, then one that begins behind it, or none: the place is the mark. -/
theorem of_front (s : ByteArray) (k : Nat) (hk : k ≤ s.size) (hs : s.size ≤ 4611686018427387904) (pre : List (Int × ByteArray)) (hp : ∀ y ∈ pre, ¬ (k : Int) < y.1)
    (h : pre = allLines s ∨ ∃ x, (k : Int) < x.1 ∧ pre ++ [x] <+: allLines s) :
    ofAcc k pre = (((Plain.mark (s.data.toList.take k)).1 : Int), ((Plain.mark (s.data.toList.take k)).2 : Int)) := by
  have hk' : k ≤ s.data.toList.length := by simpa using hk
  rw [← ofRun_mark _ _ hk']
  rcases h with rfl | ⟨x, hx, t, ht⟩
  · rw [show allLines s = (lns 0 [] s.data.toList).map conv from rfl]
    refine ofAcc_run k (by omega) _ (fun y hy => ?_)
    have := hp (conv y) (List.mem_map_of_mem hy)
    simp only [conv] at this; omega
  · have e1 : (lns 0 [] s.data.toList).map conv = pre ++ (x :: t) := by rw [show (lns 0 [] s.data.toList).map conv = allLines s from rfl, ← ht]; simp
    obtain ⟨p, q, e2, e3, e4⟩ := List.map_eq_append_iff.1 e1
    obtain ⟨x', q', e5, e6, e7⟩ := List.map_eq_cons_iff.1 e4
    rw [e2, e5, ← e3]
    have hp' : ∀ y ∈ p, ¬ k < y.1 := fun y hy => by
      have := hp (conv y) (by rw [← e3]; exact List.mem_map_of_mem hy)
      simp only [conv] at this; omega
    have hx' : k < x'.1 := by rw [← e6] at hx; simp only [conv] at hx; omega
    rw [ofRun_stop k (0, 0) p x' q' hx' hp']
    exact ofAcc_run k (by omega) p hp'

def NotBehind (k : Nat) (pre : List (Int × ByteArray)) : Prop := ∀ y ∈ pre, ¬ (k : Int) < y.1
end Go.Proofs.YtdihplmlbfggjaaGreatDoor.Lx

/-
  The contract of the document's own Of, byte by byte (as at stage 1, over this program's numbers).
-/
namespace Go.Proofs.YtdihplmlbfggjaaGreatDoor.Lx
open Go Go.RowKit Go.Shelf Plain

theorem bcell {W w1 : World} (hb : Below W.heap.size W w1) : (∀ b o, b < W.heap.size → w1.cell? ⟨b, o, none⟩ = W.cell? ⟨b, o, none⟩) ∧ (∀ b o, b < W.heap.size → w1.frozen? ⟨b, o, none⟩ = W.frozen? ⟨b, o, none⟩) :=
  ⟨fun b o h => hb.cell (p := ⟨b, o, none⟩) h, fun b o h => hb.frozen (p := ⟨b, o, none⟩) h⟩

/-- The place that k bytes stand ahead of. -/
def markAt (s : ByteArray) (k : Nat) : Nat × Nat := Plain.mark (s.data.toList.take k)

theorem take_snoc (s : ByteArray) (k : Nat) (h : k < s.size) : s.data.toList.take (k + 1) = s.data.toList.take k ++ [s[k]] := by
  rw [List.take_succ_eq_append_getElem (by simpa using h)]; rfl
theorem markAt_zero (s : ByteArray) : markAt s 0 = (1, 1) := by simp [markAt, Plain.mark]
theorem markAt_nl (s : ByteArray) (k : Nat) (h : k < s.size) (hb : ((s[k].toNat : Int) == 10) = true) : markAt s (k + 1) = ((markAt s k).1 + 1, 1) := by
  unfold markAt
  rw [take_snoc s k h]
  have : s[k] = 10 := by
    have h1 : (s[k].toNat : Int) = 10 := by simpa using hb
    exact UInt8.toNat_inj.1 (by show s[k].toNat = 10; omega)
  simp [Plain.mark, Plain.step, this]
theorem markAt_more (s : ByteArray) (k : Nat) (h : k < s.size) (hb : ((s[k].toNat : Int) == 10) = false) : markAt s (k + 1) = ((markAt s k).1, (markAt s k).2 + 1) := by
  unfold markAt
  rw [take_snoc s k h]
  have : ¬ s[k] = 10 := by
    intro e
    rw [e] at hb
    simp at hb
  simp [Plain.mark, Plain.step, this]
theorem markAt_le (s : ByteArray) (k : Nat) : (markAt s k).1 ≤ k + 1 ∧ (markAt s k).2 ≤ k + 2 := by
  have := mark_bound (s.data.toList.take k) (1, 1)
  have hl : (s.data.toList.take k).length ≤ k := List.length_take_le _ _
  unfold markAt Plain.mark
  simp only at this
  omega

set_option maxHeartbeats 800000 in
theorem refOf_calls (s : ByteArray) (hs : s.size ≤ 281474976710656) (n : Nat) (hn : n ≤ s.size) (w : World) :
    Calls Tryz.prog 52 #[.string s, .int .i64 n] w fun e w' => e = .returned (.agg #[.int .i64 ((markAt s n).1 : Int), .int .i64 ((markAt s n).2 : Int)]) ∧ Below w.heap.size w w' := by
  obtain ⟨N, hN⟩ : ∃ N, w.heap.size = N := ⟨_, rfl⟩
  have HN : Hid (w.heap.size = N) := hN
  go_enter Tryz.func52, Tryz.ntmps52
  go_wp2
  go_loopw [6] (fun i wr => ∃ k : Nat, k ≤ n ∧ i = .int .i64 k ∧ Blk wr N 97 #[.int .i64 0, .int .i64 0] ∧ Blk wr (N + 1) 97 #[.int .i64 ((markAt s k).1 : Int), .int .i64 ((markAt s k).2 : Int)] ∧ Below N w wr)
    (fun i _ => n - (intOf i).toNat)
  case atStart =>
    refine ⟨0, Nat.zero_le _, rfl, ?_, ?_, ?_⟩
    · exact (Blk.new' w N 97 _ hN).alloc _
    · rw [markAt_zero]; exact Blk.new' _ _ 97 _ (by simp [hN])
    · exact ((Below.refl N w).alloc (by simp [hN]) _).alloc (by simp [hN]) _
  case round =>
    obtain ⟨k, hk, rfl, c0, c1, hb⟩ := hrel
    have hle := markAt_le s k
    have q0 : wr.cell? ⟨N + 1, 0, none⟩ = some (.int .i64 ((markAt s k).1 : Int)) := c1.cell 0
    have q1 : wr.cell? ⟨N + 1, 1, none⟩ = some (.int .i64 ((markAt s k).2 : Int)) := c1.cell 1
    have f0 := c1.frozen 0
    have f1 := c1.frozen 1
    have b1 : ((markAt s k).1 : Int) ≤ 281474976710657 := by omega
    have b2 : ((markAt s k).2 : Int) ≤ 281474976710658 := by omega
    by_cases hlt : k < n
    · have hks : k < s.size := by omega
      by_cases hnl : ((s[k].toNat : Int) == 10) = true
      · have HM := markAt_nl s k hks hnl
        have HM' : Hid (markAt s (k + 1) = ((markAt s k).1 + 1, 1)) := HM
        clear HM
        go_wp2
        go_roundw
        case rel =>
          refine ⟨k + 1, by omega, by go_num, (c0.other (by omega) 0 _).other (by omega) 1 _, ?_, bset (bset hb (by omega) _) (by omega) _⟩
          rw [HM'.out]
          exact (c1.set 0 _).set 1 _
        case measure => simp [intOf]; omega
      · have hnl' : ((s[k].toNat : Int) == 10) = false := by simpa using hnl
        have HM' : Hid (markAt s (k + 1) = ((markAt s k).1, (markAt s k).2 + 1)) := markAt_more s k hks hnl'
        clear hnl
        go_wp2
        go_roundw
        case rel =>
          refine ⟨k + 1, by omega, by go_num, (c0.other (by omega) 0 _).other (by omega) 1 _, ?_, bset (bset hb (by omega) _) (by omega) _⟩
          rw [HM'.out]
          exact (c1.set 0 _).set 1 _
        case measure => simp [intOf]; omega
    · obtain rfl : k = n := by omega
      have q2 : wr.cell? ⟨N, 0, none⟩ = some (.int .i64 0) := c0.cell 0
      have q3 : wr.cell? ⟨N, 1, none⟩ = some (.int .i64 0) := c0.cell 1
      have f2 := c0.frozen 0
      have f3 := c0.frozen 1
      go_wp2
      have d := (c0.set 0 (.int .i64 ((markAt s k).1 : Int))).set 1 (.int .i64 ((markAt s k).2 : Int))
      have d0 : ((wr.setCell ⟨N, 0, none⟩ (.int .i64 ((markAt s k).1 : Int))).setCell ⟨N, 1, none⟩ (.int .i64 ((markAt s k).2 : Int))).cell? ⟨N, 0, none⟩ = some (.int .i64 ((markAt s k).1 : Int)) := d.cell 0
      have d1 : ((wr.setCell ⟨N, 0, none⟩ (.int .i64 ((markAt s k).1 : Int))).setCell ⟨N, 1, none⟩ (.int .i64 ((markAt s k).2 : Int))).cell? ⟨N, 1, none⟩ = some (.int .i64 ((markAt s k).2 : Int)) := d.cell 1
      exact bodyPost_ret (v := .agg #[.int .i64 ((markAt s k).1 : Int), .int .i64 ((markAt s k).2 : Int)]) (by simp [results, Tryz.results52, go_sem, d0, d1]) rfl ⟨rfl, by rw [HN.out]; exact bset (bset hb (by omega) _) (by omega) _⟩


end Go.Proofs.YtdihplmlbfggjaaGreatDoor.Lx

