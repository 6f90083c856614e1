/-
  The plain mathematics of layer 1 (places in a text): lines of a list of bytes, the mark behind so many bytes, and how the two hang together. It imports nothing of the program.
-/
import Derived.Lib.Bytealg
namespace Go.Proofs.YtdihplmlbfggjaaDoor.Lx
open Go
namespace Plain

/-- A mark, one byte further. -/
def step (m : Nat × Nat) (b : UInt8) : Nat × Nat := if b = 10 then (m.1 + 1, 1) else (m.1, m.2 + 1)

/-- The mark behind these bytes. -/
def mark (l : List UInt8) : Nat × Nat := l.foldl step (1, 1)

/-- The lines of 'cur ++ r', where 'cur' stands already in the line that begins at 'st': each with how many bytes stand ahead of it. -/
def lns : Nat → List UInt8 → List UInt8 → List (Nat × List UInt8)
  | st, cur, [] => [(st, cur)]
  | st, cur, b :: r => if b = 10 then (st, cur) :: lns (st + cur.length + 1) [] r else lns st (cur ++ [b]) r

theorem lns_head (st : Nat) (cur r : List UInt8) : ∃ ln tl, lns st cur r = (st, ln) :: tl := by
  induction r generalizing cur with
  | nil => exact ⟨_, _, rfl⟩
  | cons b r ih =>
    unfold lns
    by_cases h : b = 10
    · rw [if_pos h]; exact ⟨_, _, rfl⟩
    · rw [if_neg h]; exact ih _

theorem lns_none (st : Nat) (cur r : List UInt8) (h : Lib.indexByte r 10 < 0) : lns st cur r = [(st, cur ++ r)] := by
  induction r generalizing cur with
  | nil => simp [lns]
  | cons b r ih =>
    unfold Lib.indexByte at h
    have hge := Lib.indexByte_ge r 10
    by_cases hb : b = 10
    · subst hb; simp at h
    · have hb' : (b == (10 : UInt8)) = false := by simp [hb]
      rw [hb'] at h
      simp only [Bool.false_eq_true, if_false] at h
      unfold lns
      rw [if_neg hb, ih]
      · simp
      · by_cases h1 : (Lib.indexByte r 10 == -1) = true
        · have := beq_iff_eq.1 h1; omega
        · rw [if_neg h1] at h; omega

theorem lns_some (st : Nat) (cur r : List UInt8) (k : Nat) (h : Lib.indexByte r 10 = (k : Int)) :
    k < r.length ∧ lns st cur r = (st, cur ++ r.take k) :: lns (st + (cur.length + k) + 1) [] (r.drop (k + 1)) := by
  induction r generalizing cur k with
  | nil => simp [Lib.indexByte] at h
  | cons b r ih =>
    unfold Lib.indexByte at h
    by_cases hb : b = 10
    · subst hb; simp at h
      have : k = 0 := by omega
      subst this
      simp [lns]
    · have hb' : (b == (10 : UInt8)) = false := by simp [hb]
      rw [hb'] at h
      simp only [Bool.false_eq_true, if_false] at h
      by_cases h1 : (Lib.indexByte r 10 == -1) = true
      · rw [if_pos h1] at h; omega
      · rw [if_neg h1] at h
        have hge := Lib.indexByte_ge r 10
        have hne : Lib.indexByte r 10 ≠ -1 := fun e => h1 (by simp [e])
        obtain ⟨j, hj⟩ : ∃ j : Nat, k = j + 1 := ⟨k - 1, by omega⟩
        subst hj
        obtain ⟨i1, i2⟩ := ih (cur ++ [b]) j (by omega)
        refine ⟨by simp; omega, ?_⟩
        have e0 : lns st cur (b :: r) = lns st (cur ++ [b]) r := by simp [lns, hb]
        rw [e0, i2]
        have e1 : st + ((cur ++ [b]).length + j) + 1 = st + (cur.length + (j + 1)) + 1 := by simp; omega
        rw [e1]
        simp

/-- What Of does with the lines that it is given. -/
def ofRun (at_ : Nat) : Nat × Nat → List (Nat × List UInt8) → Nat × Nat
  | m, [] => m
  | m, x :: xs => if at_ < x.1 then m else ofRun at_ (m.1 + 1, at_ - x.1 + 1) xs

theorem ofRun_in (at_ st : Nat) (cur r : List UInt8) (m : Nat × Nat) (h1 : st ≤ at_) (h2 : at_ ≤ st + cur.length) :
    ofRun at_ m (lns st cur r) = (m.1 + 1, at_ - st + 1) := by
  induction r generalizing cur with
  | nil => simp [lns, ofRun]; omega
  | cons b r ih =>
    unfold lns
    by_cases hb : b = 10
    · rw [if_pos hb]
      obtain ⟨ln, tl, e⟩ := lns_head (st + cur.length + 1) [] r
      rw [e]
      simp only [ofRun]
      rw [if_neg (by omega), if_pos (by omega)]
    · rw [if_neg hb]
      exact ih _ (by simp; omega)

theorem ofRun_lns (at_ st : Nat) (cur r : List UInt8) (m : Nat × Nat) (h1 : st + cur.length ≤ at_) (h2 : at_ ≤ st + cur.length + r.length) :
    ofRun at_ m (lns st cur r) = (r.take (at_ - (st + cur.length))).foldl step (m.1 + 1, cur.length + 1) := by
  induction r generalizing cur st m with
  | nil =>
    simp at h2
    have e : at_ = st + cur.length := by omega
    subst e
    have e2 : ¬ st + cur.length < st := by omega
    simp [lns, ofRun, e2]
  | cons b r ih =>
    by_cases he : at_ = st + cur.length
    · rw [ofRun_in at_ st cur (b :: r) m (by omega) (by omega)]
      have e0 : at_ - (st + cur.length) = 0 := by omega
      have e1 : at_ - st = cur.length := by omega
      rw [e0, e1]; simp
    · simp at h2
      obtain ⟨j, hj⟩ : ∃ j, at_ - (st + cur.length) = j + 1 := ⟨at_ - (st + cur.length) - 1, by omega⟩
      rw [hj, List.take_succ_cons, List.foldl_cons]
      unfold lns
      by_cases hb : b = 10
      · rw [if_pos hb]
        simp only [ofRun]
        rw [if_neg (by omega), ih _ _ _ (by simp; omega) (by simp; omega)]
        simp only [step, hb, if_true]
        have e1 : at_ - (st + cur.length + 1 + ([] : List UInt8).length) = j := by simp; omega
        rw [e1]; simp
      · rw [if_neg hb, ih _ _ _ (by simp; omega) (by simp; omega)]
        simp only [step, hb, if_false]
        have e1 : at_ - (st + (cur ++ [b]).length) = j := by simp; omega
        rw [e1]; simp

/-- **Of is the mark.** -/
theorem ofRun_mark (l : List UInt8) (k : Nat) (h : k ≤ l.length) : ofRun k (0, 0) (lns 0 [] l) = mark (l.take k) := by
  rw [ofRun_lns k 0 [] l (0, 0) (by simp) (by simp; omega)]
  simp [mark]

/-- What runs over a front of the lines, and stops at the first that begins behind, is what runs over all. -/
theorem ofRun_stop (at_ : Nat) (m : Nat × Nat) (p : List (Nat × List UInt8)) (x : Nat × List UInt8) (q : List (Nat × List UInt8)) (h : at_ < x.1) (hp : ∀ y ∈ p, ¬ at_ < y.1) :
    ofRun at_ m (p ++ x :: q) = ofRun at_ m p := by
  induction p generalizing m with
  | nil => simp [ofRun, h]
  | cons y p ih =>
    have hy := hp y (by simp)
    simp only [List.cons_append, ofRun, if_neg hy]
    exact ih _ (fun z hz => hp z (by simp [hz]))

theorem mark_bound (l : List UInt8) (m : Nat × Nat) : (l.foldl step m).1 ≤ m.1 + l.length ∧ (l.foldl step m).2 ≤ m.2 + l.length + 1 := by
  induction l generalizing m with
  | nil => simp
  | cons b r ih =>
    have := ih (step m b)
    rw [List.foldl_cons]
    have h1 : (step m b).1 ≤ m.1 + 1 := by unfold step; split <;> simp
    have h2 : (step m b).2 ≤ m.2 + 1 := by unfold step; split <;> simp
    simp only [List.length_cons]
    omega

theorem lns_bound (r : List UInt8) : ∀ (st : Nat) (cur : List UInt8), (lns st cur r).length ≤ r.length + 1 ∧ ∀ x ∈ lns st cur r, x.1 + x.2.length ≤ st + cur.length + r.length := by
  induction r with
  | nil => intro st cur; simp [lns]
  | cons b r ih =>
    intro st cur
    unfold lns
    by_cases hb : b = 10
    · rw [if_pos hb]
      obtain ⟨h1, h2⟩ := ih (st + cur.length + 1) []
      refine ⟨by simp; omega, ?_⟩
      intro x hx
      rcases List.mem_cons.1 hx with rfl | hx
      · simp
      · have := h2 x hx; simp at this ⊢; omega
    · rw [if_neg hb]
      obtain ⟨h1, h2⟩ := ih st (cur ++ [b])
      refine ⟨by simp; omega, ?_⟩
      intro x hx
      have := h2 x hx; simp at this ⊢; omega

end Plain
end Go.Proofs.YtdihplmlbfggjaaDoor.Lx
