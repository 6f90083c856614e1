/-
  The contract of the document's All: a text's lines, as a slice of its own.
-/
import Derived.Test.YtjmpacenlmoldaaDoorText
import Derived.Laws.AppendOwn
import Derived.Laws.OwnMore
import Derived.Maps.AppendAt
import Derived.RangeFuncBox
import Derived.OwnWalk
import Derived.BigRegion
namespace Go.Proofs.YtjmpacenlmoldaaDoor
open Go Go.RowKit Go.Shelf Go.Sort Plain

def strV (l : List UInt8) : Value := .string ⟨l.toArray⟩
theorem info9 : (Tryd.prog.info? 9).map (fun i => (i.zero, i.size, i.bytes)) = some (some (.string ⟨#[]⟩), 1, 16) := by kernel_rfl

/-- What the loop knows after k bytes. -/
def AllAt (s : ByteArray) (k : Nat) (pre : List (List UInt8)) (cur : List UInt8) : Prop :=
  (∃ st, pre ++ (lns st cur (s.data.toList.drop k)).map (·.2) = (lns 0 [] s.data.toList).map (·.2)) ∧ pre.length ≤ k ∧ cur.length ≤ k

theorem AllAt.zero (s : ByteArray) : AllAt s 0 [] [] := ⟨⟨0, by simp⟩, by simp, by simp⟩
theorem drop_cons (s : ByteArray) (k : Nat) (h : k < s.size) : s.data.toList.drop k = s[k] :: s.data.toList.drop (k + 1) := by
  rw [List.drop_eq_getElem_cons (by simpa using h)]; rfl
theorem byte_ten (b : UInt8) : ((b.toNat : Int) == 10) = decide (b = 10) := by
  by_cases h : b = 10
  · subst h; rfl
  · have : ¬ b.toNat = 10 := fun e => h (UInt8.toNat_inj.1 e)
    simp [h]; omega
theorem AllAt.nl {s : ByteArray} {k : Nat} {pre : List (List UInt8)} {cur : List UInt8} (h : AllAt s k pre cur) (hk : k < s.size) (hb : ((s[k].toNat : Int) == 10) = true) : AllAt s (k + 1) (pre ++ [cur]) [] := by
  obtain ⟨⟨st, h1⟩, h2, h3⟩ := h
  rw [drop_cons s k hk] at h1
  rw [byte_ten] at hb
  have hb' : s[k] = 10 := by simpa using hb
  refine ⟨⟨st + cur.length + 1, ?_⟩, by simp; omega, by simp⟩
  rw [← h1]
  simp [lns, hb']
theorem AllAt.more {s : ByteArray} {k : Nat} {pre : List (List UInt8)} {cur : List UInt8} (h : AllAt s k pre cur) (hk : k < s.size) (hb : ((s[k].toNat : Int) == 10) = false) : AllAt s (k + 1) pre (cur ++ [s[k]]) := by
  obtain ⟨⟨st, h1⟩, h2, h3⟩ := h
  rw [drop_cons s k hk] at h1
  rw [byte_ten] at hb
  have hb' : ¬ s[k] = 10 := by simpa using hb
  refine ⟨⟨st, ?_⟩, by omega, by simp; omega⟩
  rw [← h1]
  simp [lns, hb']
theorem AllAt.last {s : ByteArray} {pre : List (List UInt8)} {cur : List UInt8} (h : AllAt s s.size pre cur) : pre ++ [cur] = (lns 0 [] s.data.toList).map (·.2) := by
  obtain ⟨⟨st, h1⟩, _, _⟩ := h
  rw [List.drop_eq_nil_of_le (by simp)] at h1
  simpa [lns] using h1

theorem set_last (pre : List (List UInt8)) (cur : List UInt8) (u : Value) : ((pre ++ [cur]).map strV).set pre.length u = pre.map strV ++ [u] := by
  rw [List.map_append, List.map_cons, List.map_nil]
  have : pre.length = (pre.map strV).length := by simp
  rw [this, List.set_append_right _ _ (Nat.le_refl _)]
  simp
theorem str_snoc (s : ByteArray) (k : Nat) (h : k < s.size) (cur : List UInt8) {pre : List (List UInt8)} : pre.map strV ++ [.string ((⟨cur.toArray⟩ : ByteArray) ++ s.extract k (k + 1))] = (pre ++ [cur ++ [s[k]]]).map strV := by
  have e : (s.extract k (k + 1)).data.toList = [s[k]] := by
    rw [Lib.extract_data, drop_cons s k h]
    simp
  have e2 : s.extract k (k + 1) = ⟨#[s[k]]⟩ := by
    apply ByteArray.ext
    rw [← Array.toList_inj, e]
  rw [e2, List.map_append, List.map_cons, List.map_nil]
  congr 2

set_option maxHeartbeats 1600000 in
theorem All_calls (s : ByteArray) (hs : s.size ≤ 1000) (w : World) :
    Calls Tryd.prog 16 #[.string s] w fun r w' => (∃ g cap, r = .returned (.slice (some ⟨g, 0, none⟩) (lns 0 [] s.data.toList).length cap) ∧ w'.ownsRow w.heap.size 9 1 (.slice (some ⟨g, 0, none⟩) (lns 0 [] s.data.toList).length cap) (lns 0 [] s.data.toList).length ((lns 0 [] s.data.toList).map fun x => strV x.2)) ∧ Below w.heap.size w w' := by
  obtain ⟨N, hN⟩ : ∃ N, w.heap.size = N := ⟨_, rfl⟩
  rw [hN]
  have HN : Hid (w.heap.size = N) := hN
  obtain ⟨i0, hi, hz0, hz1, hz2⟩ := info_parts info9
  go_enter Tryd.func16, Tryd.ntmps16
  go_wp2
  go_loopw [3, 4] (fun v i wr => ∃ (k : Nat) (pre : List (List UInt8)) (cur : List UInt8) (g cap : Nat), k ≤ s.size ∧ i = .int .i64 k ∧ v = .slice (some ⟨g, 0, none⟩) (pre.length + 1) cap ∧ AllAt s k pre cur ∧ wr.ownsRow N 9 1 (.slice (some ⟨g, 0, none⟩) (pre.length + 1) cap) (pre.length + 1) ((pre ++ [cur]).map strV) ∧ Below N w wr)
    (fun _ i _ => s.size - (intOf i).toNat)
  case atStart =>
    refine ⟨0, [], [], N, 1, Nat.zero_le _, rfl, rfl, AllAt.zero s, ?_, (Below.refl N w).alloc (by simp [hN]) _⟩
    have := World.ownsRow_lit (base := N) (e := 9) (size := 1) w #[.string ⟨#[]⟩] 1 (by simp [hN]) (by unfold maxLen; omega) rfl
    rw [hN] at this
    exact this
  case round =>
    obtain ⟨k, pre, cur, g, cap, hk, rfl, rfl, hat, hrow, hb⟩ := hrel
    have hpl : pre.length ≤ k := hat.2.1
    have hcl : cur.length ≤ k := hat.2.2
    by_cases hlt : k < s.size
    · by_cases hnl : ((s[k].toNat : Int) == 10) = true
      · have hat' := hat.nl hlt hnl
        go_wp2_with (at_builtin; refine wpList_append_own _ rfl _ _ 38 rfl N 9 i0 (.string ⟨#[]⟩) 1 16 Tryd.underlying38 hi hz0 hz1 hz2 rfl (by decide) _ _ _ rfl (hrow.alloc _) ⟨wr.heap.size, 0, none⟩ 1 1 [.string ⟨#[]⟩] rfl rfl (cell_one_new _ _ _) (by simp [Value.oneCell']) (by unfold maxLen; omega) (by omega) (by have := hb.size; simp; omega) ?_; intro v' w1 hown' hgrow _; obtain ⟨g', cap', rfl⟩ := ownsRow_succ hown')
        have hb1 : Below N w w1 := (hb.alloc (by have := hb.size; omega) _).grown hgrow (by have := hb.size; simp; omega) (fun j hj => (hrow.lt j hj).1)
        refine ⟨⟨k + 1, pre ++ [cur], [], g', cap', by omega, by go_num, by simp, hat', ?_, hb1⟩, by simp [intOf]; omega⟩
        simpa [strV] using hown'
      · have hnl' : ((s[k].toNat : Int) == 10) = false := by simpa using hnl
        have hat' := hat.more hlt hnl'
        clear hnl
        have hc : wr.cell? ⟨g, pre.length, none⟩ = some (.string ⟨cur.toArray⟩) := by
          rw [hrow.cellAt pre.length (by omega)]
          simp [strV]
        have hf := hrow.frozenAt pre.length
        have hsz : (⟨cur.toArray⟩ : ByteArray).size = cur.length := rfl
        go_wp2
        go_region
        go_wp2
        have hst := (hrow.stored pre.length (.string ((⟨cur.toArray⟩ : ByteArray) ++ s.extract k (k + 1)))).1
        rw [set_last, str_snoc s k hlt cur] at hst
        refine ⟨⟨k + 1, pre, cur ++ [s[k]], g, cap, by omega, by go_num, rfl, hat', hst.drew, (bset hb (hrow.lt g rfl).1 _).drew⟩, by simp [intOf]; omega⟩
    · obtain rfl : k = s.size := by omega
      have e := hat.last
      have el : pre.length + 1 = (lns 0 [] s.data.toList).length := by
        have := congrArg List.length e
        simpa using this
      have em : (pre ++ [cur]).map strV = (lns 0 [] s.data.toList).map fun x => strV x.2 := by rw [e]; simp
      have HE : Hid (pre.length + 1 = (lns 0 [] s.data.toList).length) := el
      have HM : Hid ((pre ++ [cur]).map strV = (lns 0 [] s.data.toList).map fun x => strV x.2) := em
      clear e el em
      go_wp2
      go_ret
      refine ⟨⟨g, cap, by rw [← HE.out]; rfl, ?_⟩, hb⟩
      rw [← HE.out, ← HM.out]
      exact hrow

end Go.Proofs.YtjmpacenlmoldaaDoor
