/-
  What is wrong with a table, name by name.
-/
import Derived.Test.YtdihplmlbfggjaaGreatDoorKnowns
namespace Go.Proofs.YtdihplmlbfggjaaGreatDoor
open Go Go.RowKit Go.Maps

/-- What is wrong from the i-th name on. -/
def chkF (bs : List ByteArray) (cs : List Cn) (i : Nat) : Nat :=
  if i < bs.length then (if chkB (bs.take i) (bs.drop i) = 0 then chkC bs.length bs cs else chkB (bs.take i) (bs.drop i)) else chkC bs.length ((names bs cs).take i) (cs.drop (i - bs.length))

theorem names_length (bs : List ByteArray) (cs : List Cn) : (names bs cs).length = bs.length + cs.length := by simp [names]
theorem names_base {bs : List ByteArray} {cs : List Cn} {i : Nat} (h : i < bs.length) : (names bs cs)[i]? = bs[i]? := by
  unfold names; rw [List.getElem?_append_left h]
theorem names_const {bs : List ByteArray} {cs : List Cn} {i : Nat} (h : ¬ i < bs.length) : (names bs cs)[i]? = (cs[i - bs.length]?).map Cn.name := by
  unfold names; rw [List.getElem?_append_right (by omega), List.getElem?_map]
theorem names_take {bs : List ByteArray} {cs : List Cn} {i : Nat} (h : i ≤ bs.length) : (names bs cs).take i = bs.take i := by
  unfold names; rw [List.take_append_of_le_length h]

theorem chkF_zero (bs : List ByteArray) (cs : List Cn) (h : ¬ 1000 < bs.length + cs.length) : chk bs cs = chkF bs cs 0 := by
  unfold chk chkF
  rw [if_neg h]
  by_cases h0 : 0 < bs.length
  · rw [if_pos h0]; rfl
  · rw [if_neg h0]
    have : bs = [] := List.eq_nil_of_length_eq_zero (by omega)
    subst this
    rfl
theorem chkF_end (bs : List ByteArray) (cs : List Cn) : chkF bs cs (bs.length + cs.length) = 0 := by
  unfold chkF
  rw [if_neg (by omega), List.drop_of_length_le (by omega)]
  rfl
theorem chkF_bad {bs : List ByteArray} {cs : List Cn} {i : Nat} {s : ByteArray} (hs : (names bs cs)[i]? = some s) (hm : metE ((names bs cs).take i) s ≠ 0) : chkF bs cs i = metE ((names bs cs).take i) s := by
  unfold chkF
  by_cases hi : i < bs.length
  · rw [if_pos hi]
    rw [names_take (by omega)] at hm ⊢
    rw [names_base hi] at hs
    rw [chkB_step hs, if_neg hm, if_neg hm]
  · rw [if_neg hi]
    rw [names_const hi] at hs
    obtain ⟨c, hc, rfl⟩ := Option.map_eq_some_iff.1 hs
    rw [chkC_step hc, if_neg hm]
theorem chkF_base {bs : List ByteArray} {cs : List Cn} {i : Nat} {s : ByteArray} (hi : i < bs.length) (hs : (names bs cs)[i]? = some s) (hm : metE ((names bs cs).take i) s = 0) : chkF bs cs i = chkF bs cs (i + 1) := by
  have ht : bs.take (i + 1) = bs.take i ++ [s] := by
    rw [names_base hi] at hs
    rw [List.take_add_one, hs]; rfl
  rw [names_take (by omega)] at hm
  rw [names_base hi] at hs
  unfold chkF
  rw [if_pos hi, chkB_step hs, if_pos hm, ← ht]
  by_cases h1 : i + 1 < bs.length
  · rw [if_pos h1]
  · rw [if_neg h1]
    have e : i + 1 = bs.length := by omega
    rw [names_take (by omega), List.drop_of_length_le (show bs.length ≤ i + 1 by omega), List.take_of_length_le (show bs.length ≤ i + 1 by omega)]
    rw [show i + 1 - bs.length = 0 by omega]
    rfl
theorem chkF_const {bs : List ByteArray} {cs : List Cn} {i : Nat} {c : Cn} (hi : ¬ i < bs.length) (hc : cs[i - bs.length]? = some c) (hm : metE ((names bs cs).take i) c.name = 0) : chkF bs cs i = if rightB bs.length c.ty = true then chkF bs cs (i + 1) else 5 := by
  have hs : (names bs cs)[i]? = some c.name := by rw [names_const hi, hc]; rfl
  have ht : (names bs cs).take (i + 1) = (names bs cs).take i ++ [c.name] := by rw [List.take_add_one, hs]; rfl
  have h1 : ¬ i + 1 < bs.length := by omega
  unfold chkF
  rw [if_neg hi, if_neg h1, chkC_step hc, if_pos hm, ht, show i - bs.length + 1 = i + 1 - bs.length by omega]

/-- No name ahead of the k-th is this one. -/
def NoneUp (l : List ByteArray) (s : ByteArray) (k : Nat) : Prop := ∀ i t, i < k → l[i]? = some t → t ≠ s
theorem NoneUp.zero (l : List ByteArray) (s : ByteArray) : NoneUp l s 0 := fun _ _ h => by omega
theorem NoneUp.step {l : List ByteArray} {s t : ByteArray} {k : Nat} (h : NoneUp l s k) (ht : l[k]? = some t) (hn : t ≠ s) : NoneUp l s (k + 1) := by
  intro i x hi hx
  rcases Nat.lt_or_ge i k with hl | hl
  · exact h i x hl hx
  · obtain rfl : i = k := by omega
    rw [ht] at hx; cases hx; exact hn
theorem NoneUp.notin {l : List ByteArray} {s : ByteArray} {k : Nat} (h : NoneUp l s k) : inB s (l.take k) = false := by
  cases hb : inB s (l.take k) with
  | false => rfl
  | true =>
    have hm := (inB_iff s _).1 hb
    obtain ⟨i, hi⟩ := List.mem_iff_getElem?.1 hm
    have hik : i < k := by
      have := (List.getElem?_eq_some_iff.1 hi).1
      rw [List.length_take] at this
      omega
    rw [List.getElem?_take_of_lt hik] at hi
    exact absurd rfl (h i s hik hi)
theorem in_take {l : List ByteArray} {s : ByteArray} {k j : Nat} (hj : j < k) (h : l[j]? = some s) : inB s (l.take k) = true := by
  rw [inB_iff]
  refine List.mem_iff_getElem?.2 ⟨j, ?_⟩
  rw [List.getElem?_take_of_lt hj]; exact h
theorem metE_form {ms : List ByteArray} {s : ByteArray} (h : wordB s = false) : metE ms s = 3 := by unfold metE; rw [if_pos h]
theorem metE_name {ms : List ByteArray} {s : ByteArray} (h : wordB s = true) (hi : inB s ms = true) : metE ms s = 4 := by unfold metE; rw [if_neg (by rw [h]; simp), if_pos hi]
theorem metE_good {ms : List ByteArray} {s : ByteArray} (h : wordB s = true) (hi : inB s ms = false) : metE ms s = 0 := by unfold metE; rw [if_neg (by rw [h]; simp), if_neg (by rw [hi]; simp)]

end Go.Proofs.YtdihplmlbfggjaaGreatDoor
