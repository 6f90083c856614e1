/-
  Among so many words that no two of are the same there is one that is no name.
-/
import Derived.Test.YtdihplmlbfggjaaGreatDoorKnowns
namespace Go.Proofs.YtdihplmlbfggjaaGreatDoor
open Go Go.RowKit Go.Maps

theorem nodup_subset_le (l : List ByteArray) : ∀ m : List ByteArray, l.Nodup → (∀ x ∈ l, x ∈ m) → l.length ≤ m.length := by
  induction l with
  | nil => intro m _ _; exact Nat.zero_le _
  | cons a l ih =>
    intro m hd hs
    rw [List.nodup_cons] at hd
    obtain ⟨p, q, rfl⟩ := List.append_of_mem (hs a (by simp))
    have := ih (p ++ q) hd.2 (fun x hx => by
      have hxa : x ≠ a := fun e => hd.1 (e ▸ hx)
      have := hs x (by simp [hx])
      simp only [List.mem_append, List.mem_cons] at this ⊢
      rcases this with h | h | h
      · exact .inl h
      · exact absurd h hxa
      · exact .inr h)
    simp only [List.length_append, List.length_cons] at this ⊢
    omega
theorem digs_inj : ∀ i j : Fin 61, Lib.decDigits i.val = Lib.decDigits j.val → i = j := by decide +kernel
theorem digs_pos : ∀ i : Fin 61, 0 < (Lib.decDigits i.val).length := by decide +kernel
theorem cand_inj (s : ByteArray) {i j : Nat} (hi : i < 61) (hj : j < 61) (h : cand s i = cand s j) : i = j := by
  have hd := congrArg (fun b : ByteArray => b.data.toList) h
  unfold cand at hd
  by_cases h0 : i = 0
  · by_cases h1 : j = 0
    · omega
    · rw [if_pos h0, if_neg h1] at hd
      simp only [ByteArray.data_append, Array.toList_append] at hd
      have := congrArg List.length hd
      have hp : 0 < (Lib.decDigits j).length := digs_pos ⟨j, hj⟩
      simp only [List.length_append] at this
      omega
  · by_cases h1 : j = 0
    · rw [if_neg h0, if_pos h1] at hd
      simp only [ByteArray.data_append, Array.toList_append] at hd
      have := congrArg List.length hd
      have hp : 0 < (Lib.decDigits i).length := digs_pos ⟨i, hi⟩
      simp only [List.length_append] at this
      omega
    · rw [if_neg h0, if_neg h1] at hd
      simp only [ByteArray.data_append, Array.toList_append] at hd
      have := digs_inj ⟨i, hi⟩ ⟨j, hj⟩ (List.append_cancel_left hd)
      exact congrArg Fin.val this
theorem exists_cand (ms : List ByteArray) (hl : ms.length ≤ 60) (s : ByteArray) : ∃ k, k < 61 ∧ (∀ j, j < k → inB (cand s j) ms = true) ∧ inB (cand s k) ms = false := by
  have main : ∀ n, n ≤ 61 → (∃ k, k < n ∧ (∀ j, j < k → inB (cand s j) ms = true) ∧ inB (cand s k) ms = false) ∨ ∀ j, j < n → inB (cand s j) ms = true := by
    intro n
    induction n with
    | zero => intro _; exact .inr fun j h => by omega
    | succ n ih =>
      intro hn
      rcases ih (by omega) with ⟨k, hk, h1, h2⟩ | h
      · exact .inl ⟨k, by omega, h1, h2⟩
      · cases hb : inB (cand s n) ms with
        | false => exact .inl ⟨n, by omega, h, hb⟩
        | true =>
          refine .inr fun j hj => ?_
          rcases Nat.lt_or_ge j n with hjn | hjn
          · exact h j hjn
          · obtain rfl : j = n := by omega
            exact hb
  rcases main 61 (Nat.le_refl _) with h | h
  · exact h
  · exfalso
    have hnd : ((List.range 61).map (cand s)).Nodup := by
      rw [List.nodup_iff_pairwise_ne, List.pairwise_map]
      refine List.Pairwise.imp_of_mem ?_ (List.nodup_iff_pairwise_ne.1 List.nodup_range)
      intro a b ha hb hne e
      rw [List.mem_range] at ha hb
      exact hne (cand_inj s ha hb e)
    have := nodup_subset_le _ ms hnd (fun x hx => by
      obtain ⟨j, hj, rfl⟩ := List.mem_map.1 hx
      exact (inB_iff _ _).1 (h j (List.mem_range.1 hj)))
    simp at this
    omega

end Go.Proofs.YtdihplmlbfggjaaGreatDoor
