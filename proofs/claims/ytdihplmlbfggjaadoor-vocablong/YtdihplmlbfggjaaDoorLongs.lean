/-
  What is wrong with tables of many words.
-/
import Derived.Test.YtdihplmlbfggjaaDoorWord
namespace Go.Proofs.YtdihplmlbfggjaaDoor
open Go Go.RowKit Go.Maps

theorem metE_ok {ms : List ByteArray} {s : ByteArray} (hw : wordB s = true) (hn : s ∉ ms) : metE ms s = 0 := by
  unfold metE
  rw [if_neg (by rw [hw]; simp), if_neg (fun h => hn ((inB_iff s ms).1 h))]
theorem chkB_ok (l : List ByteArray) : ∀ ms : List ByteArray, (ms ++ l).Nodup → (∀ s ∈ l, wordB s = true) → chkB ms l = 0 := by
  induction l with
  | nil => intro ms _ _; rfl
  | cons s l ih =>
    intro ms hd hw
    have hn : s ∉ ms := fun hm => (List.nodup_append.1 hd).2.2 s hm s (by simp) rfl
    rw [chkB, if_pos (metE_ok (hw s (by simp)) hn)]
    exact ih _ (by simpa using hd) (fun t ht => hw t (by simp [ht]))
theorem chkC_ok (nb : Int) (l : List Cn) : ∀ ms : List ByteArray, (ms ++ l.map Cn.name).Nodup → (∀ c ∈ l, wordB c.name = true ∧ rightB nb c.ty = true) → chkC nb ms l = 0 := by
  induction l with
  | nil => intro ms _ _; rfl
  | cons c l ih =>
    intro ms hd hw
    have hn : c.name ∉ ms := fun hm => (List.nodup_append.1 hd).2.2 c.name hm c.name (by simp) rfl
    rw [chkC, if_pos (metE_ok (hw c (by simp)).1 hn), if_pos (hw c (by simp)).2]
    exact ih _ (by simpa using hd) (fun t ht => hw t (by simp [ht]))

/-- The bases, and the constants, of the law's tables. -/
def manyB (n : Nat) : List ByteArray := (List.range n).map wordOf
def manyC (n m : Nat) : List Cn := (List.range m).map fun i => ⟨wordOf (n + i), tA⟩
theorem many_names (n m : Nat) : manyB n ++ (manyC n m).map Cn.name = (List.range (n + m)).map wordOf := by
  unfold manyB manyC
  rw [List.range_add, List.map_append, List.map_map, List.map_map]
  rfl
theorem many_nodup (k : Nat) (hk : k ≤ 1010) : ((List.range k).map wordOf).Nodup := by
  rw [List.nodup_iff_pairwise_ne, List.pairwise_map]
  refine List.Pairwise.imp_of_mem ?_ (List.nodup_iff_pairwise_ne.1 List.nodup_range)
  intro a b ha hb hne e
  rw [List.mem_range] at ha hb
  exact hne (wordOf_inj (by omega) (by omega) e)
theorem right1 : rightB 1 tA = true := by decide +kernel
theorem right2 : rightB 2 tA = true := by decide +kernel
theorem right0 : rightB 0 tA = false := by decide +kernel
theorem chk_many (n m : Nat) (hn : n < 3) (hm : n + m ≤ 1005) (hm0 : 0 < m) : chk (manyB n) (manyC n m) = if 1000 < n + m then 2 else if n = 0 then 5 else 0 := by
  have hlB : (manyB n).length = n := by simp [manyB]
  have hlC : (manyC n m).length = m := by simp [manyC]
  unfold chk
  rw [hlB, hlC]
  by_cases hb : 1000 < n + m
  · rw [if_pos hb, if_pos hb]
  · rw [if_neg hb, if_neg hb]
    have hnd := many_nodup (n + m) (by omega)
    rw [← many_names] at hnd
    have hB : chkB [] (manyB n) = 0 := chkB_ok _ [] (by simpa using (List.nodup_append.1 hnd).1) (fun s hs => by
      obtain ⟨i, hi, rfl⟩ := List.mem_map.1 hs
      rw [List.mem_range] at hi
      exact wordOf_all ⟨i, by omega⟩)
    rw [if_pos hB]
    by_cases h0 : n = 0
    · subst h0
      rw [if_pos rfl]
      obtain ⟨k, rfl⟩ : ∃ k, m = k + 1 := ⟨m - 1, by omega⟩
      have e : manyC 0 (k + 1) = ⟨wordOf 0, tA⟩ :: (List.range k).map (fun i => ⟨wordOf (0 + (i + 1)), tA⟩) := by
        unfold manyC
        rw [List.range_succ_eq_map, List.map_cons, List.map_map]
        rfl
      rw [e, chkC, if_pos (metE_ok (wordOf_all ⟨0, by omega⟩) (by simp [manyB])), if_neg (by rw [show ((0 : Nat) : Int) = 0 from rfl, right0]; simp)]
    · rw [if_neg h0]
      refine chkC_ok _ _ _ hnd (fun c hc => ?_)
      obtain ⟨i, hi, rfl⟩ := List.mem_map.1 hc
      rw [List.mem_range] at hi
      refine ⟨wordOf_all ⟨n + i, by omega⟩, ?_⟩
      obtain rfl | rfl : n = 1 ∨ n = 2 := by omega
      · exact right1
      · exact right2

end Go.Proofs.YtdihplmlbfggjaaDoor
