/-
  The contract of term.sizes: the sizes of a term and of all terms within, behind a list.
-/
import Derived.Test.YtheokboggjnenaaSizes
import Derived.Test.YtheokboggjnenaaHoldT
namespace Go.Proofs.Ytheokboggjnenaa
open Go Go.RowKit Go.Sort

mutual
/-- The sizes of a term and of all terms within, in order. -/
def Tm.szs : Tm → List Int
  | .mk _ _ _ l => ((1 + sizeT l : Nat) : Int) :: szsT l
def szsT : List Tm → List Int
  | [] => []
  | t :: r => t.szs ++ szsT r
end
theorem Tm.szs_eq (t : Tm) : t.szs = (t.size : Int) :: szsT t.args := by cases t; rfl
theorem szsT_append (a b : List Tm) : szsT (a ++ b) = szsT a ++ szsT b := by
  induction a with
  | nil => rfl
  | cons t a ih => simp [szsT, ih]
theorem szsT_len' (a : List Tm) (h : ∀ t ∈ a, t.szs.length = t.size) : (szsT a).length = sizeT a := by
  induction a with
  | nil => rfl
  | cons t a ih => simp [szsT, sizeT, h t (by simp), ih (fun u hu => h u (by simp [hu]))]
theorem Tm.szs_len (t : Tm) : t.szs.length = t.size := by
  induction t using Tm.ind with
  | h t ih => rw [t.szs_eq, t.size_eq, List.length_cons, szsT_len' _ ih]; omega
theorem szsT_len (a : List Tm) : (szsT a).length = sizeT a := szsT_len' a fun t _ => t.szs_len
theorem szsT_take {ts : List Tm} {k : Nat} {t : Tm} (h : ts[k]? = some t) : szsT (ts.take (k + 1)) = szsT (ts.take k) ++ t.szs := by
  rw [List.take_add_one, h, szsT_append]; simp [szsT]
theorem sizeT_take' {ts : List Tm} {k : Nat} {t : Tm} (h : ts[k]? = some t) : sizeT (ts.take (k + 1)) = sizeT (ts.take k) + t.size := by
  rw [List.take_add_one, h, sizeT_append]; simp [sizeT]
theorem sizeT_take_le' (ts : List Tm) (k : Nat) : sizeT (ts.take k) ≤ sizeT ts := by
  have h := sizeT_append (ts.take k) (ts.drop k)
  rw [List.take_append_drop] at h
  omega
theorem HoldsT.grown {w w' : World} {v vk : Value} {ts : List Tm} {sl : Value} (h : HoldsT w (fun b => v.ownBlock ≠ some b) ts sl) (hg : w.grownBy w' v.ownBlock) (hs : OwnStep w.heap.size v vk) : HoldsT w' (fun b => vk.ownBlock ≠ some b) ts sl :=
  h.keep fun b hb ho => ⟨hg.block b hb (fun e => ho e.symm), hs.ne hb ho⟩

set_option maxRecDepth 100000 in
set_option maxHeartbeats 3200000 in
theorem sizesT_calls (M : Nat) (t : Tm) : ∀ (l0 : List Int) (v sb sl : Value) (w : World), w.ownsRow M 3 1 v l0.length (ints l0) → M ≤ w.heap.size → Holds w (fun b => v.ownBlock ≠ some b) t.binds sb → HoldsT w (fun b => v.ownBlock ≠ some b) t.args sl → l0.length + t.size ≤ 1000000 →
    Calls Try.prog 66 #[v, tmv sb t.kind t.idx sl] w fun e w' => ∃ v', e = .returned v' ∧ w'.ownsRow M 3 1 v' (l0.length + t.size) (ints (l0 ++ t.szs)) ∧ w.grownBy w' v.ownBlock ∧ OwnStep w.heap.size v v' := by
  induction t using Tm.ind with
  | h t ih =>
  intro l0 v sb sl w hrow hMw hb hh hsz
  obtain ⟨va, vc, rfl⟩ := row_shape hrow
  obtain ⟨n, hn⟩ : ∃ n, l0.length = n := ⟨_, rfl⟩
  rw [hn] at hsz
  have HN : Hid (l0.length = n) := hn
  rw [hn] at hrow hb hh ⊢
  clear hn
  obtain ⟨ts, hts⟩ : ∃ ts, t.args = ts := ⟨_, rfl⟩
  have hsz2 := t.size_eq
  have hze := t.szs_eq
  rw [hts] at hsz2 hze hh ih
  have HZ : Hid _ := hze
  have HS : Hid _ := hsz2
  clear hze
  obtain ⟨x1, x2, rfl, _⟩ := hb.shape
  obtain ⟨bn, hbn⟩ : ∃ bn, t.binds.length = bn := ⟨_, rfl⟩
  rw [hbn] at hb ⊢
  clear hbn
  obtain ⟨a, cap, rfl, hcap, hat⟩ := hh.shape
  have HA : Hid _ := hat
  clear hat
  have hln := sizeT_length ts
  have hlb : sizeT ts < t.size := by omega
  clear hsz2
  obtain ⟨i0, hi, hz0, hz1, hz2⟩ := info_parts info3
  obtain ⟨B, hB⟩ : ∃ B, w.heap.size = B := ⟨_, rfl⟩
  rw [hB] at hMw ⊢
  have hvl : ∀ b, (Value.slice va n vc).ownBlock = some b → b < B := fun b hb => by rw [← hB]; exact (hrow.lt b hb).2
  go_enter Try.func66, Try.ntmps66
  go_wp2_with (at_builtin; refine wpList_append_lies _ rfl _ _ 41 rfl M 3 i0 (.int .i64 0) 1 8 Try.underlying41 hi hz0 hz1 hz2 rfl (by decide) _ n (ints l0) rfl ((hrow.alloc _).alloc _) ⟨B + 1, 0, none⟩ 1 1 [.int .i64 0] rfl rfl (cell_one _ (B + 1) (by simp [hB]) _ _) (by simp [Value.oneCell']) (by omega) (by unfold maxLen; omega) (by omega) (by simp; omega) _ rfl ?_; intro g2 cap2 w2 hown2 hgrow2 hat2 hlt2; have b2 : Blk w2 B 34 #[.slice x1 bn x2, .int .i64 t.kind, .int .i64 t.idx, .slice a ts.length cap] := ((Blk.new' w B 34 _ hB).alloc _).kept hgrow2 (fun e => by have := hvl B e.symm; omega); have c0 := b2.cell 3)
  have hg0 : w.grownBy w2 (Value.slice va n vc).ownBlock := grown_trans (vk := .slice va n vc) (grown_alloc (grown_alloc (grown_refl w _) _) _) (OwnStep.refl _ _) hgrow2
  have hst : OwnStep B (.slice va n vc) (.slice (some ⟨g2, 0, none⟩) (n + 1) cap2) := by
    rcases hat2 with h | h
    · exact .inl h.symm
    · exact .inr ⟨g2, rfl, by rw [h]; simp [hB]; omega⟩
  have hM2 : M ≤ w2.heap.size := by have := b2.lt; omega
  have hown2' : w2.ownsRow M 3 1 (.slice (some ⟨g2, 0, none⟩) (n + 1) cap2) (n + 1) (ints (l0 ++ [0])) := by rw [ints_append]; exact hown2
  clear hown2 hgrow2 hat2 hlt2
  go_loopw [0, 16] (fun l i wr => ∃ (k : Nat) (vk : Value), k ≤ ts.length ∧ i = .int .i64 k ∧ l = vk ∧ wr.ownsRow M 3 1 vk (n + 1 + sizeT (ts.take k)) (ints (l0 ++ 0 :: szsT (ts.take k))) ∧ w.grownBy wr (Value.slice va n vc).ownBlock ∧ OwnStep B (.slice va n vc) vk ∧ M ≤ wr.heap.size)
    (fun _ i _ => ts.length - (intOf i).toNat)
  case atStart => exact ⟨0, _, Nat.zero_le _, rfl, rfl, hown2', hg0, hst, hM2⟩
  case round =>
    clear hown2' hg0 hst hM2 c0 b2
    obtain ⟨k, vk, hk, rfl, rfl, hrk, hgk, hsk, hMk⟩ := hrel
    have hle := sizeT_take_le' ts k
    by_cases hlt : k < ts.length
    · obtain ⟨u, hu⟩ : ∃ u, ts[k]? = some u := ⟨_, List.getElem?_eq_getElem hlt⟩
      obtain ⟨g, o, sbu, s, rfl, hgo, hg, a0, a1, a2, a3, hsb, hs⟩ := HA.out k u hu
      have hkb := hgk.block g hg (fun e => hgo e.symm)
      have q0 := (World.cell?_of_block (w := w) (a := ⟨g, o + k * 4, none⟩) hkb).trans a0
      have q1 := (World.cell?_of_block (w := w) (a := ⟨g, o + k * 4 + 1, none⟩) hkb).trans a1
      have q2 := (World.cell?_of_block (w := w) (a := ⟨g, o + k * 4 + 2, none⟩) hkb).trans a2
      have q3 := (World.cell?_of_block (w := w) (a := ⟨g, o + k * 4 + 3, none⟩) hkb).trans a3
      have hm := List.mem_of_getElem? hu
      have hus := tsize_mem hm
      have hle2 : sizeT (ts.take k) + u.size ≤ sizeT ts := by rw [← sizeT_take' hu]; exact sizeT_take_le' ts (k + 1)
      have HS2 : Hid (sizeT (ts.take (k + 1)) = sizeT (ts.take k) + u.size) := sizeT_take' hu
      have HZ2 : Hid (szsT (ts.take (k + 1)) = szsT (ts.take k) ++ u.szs) := szsT_take hu
      have y1 : (0 : Int) ≤ (k : Int) := by omega
      have y2 : (k : Int) < (ts.length : Int) := by omega
      obtain ⟨sd, se, rfl, _⟩ := hsb.shape
      obtain ⟨sa, sc, rfl, _⟩ := hs.shape
      have hs2 := hs.grown hgk (by rw [hB]; exact hsk)
      have hsb2 := hsb.grown hgk (by rw [hB]; exact hsk)
      have hlk : (l0 ++ 0 :: szsT (ts.take k)).length = n + 1 + sizeT (ts.take k) := by rw [List.length_append, List.length_cons, szsT_len, HN.out]; omega
      have hcall := ih u hm (l0 ++ 0 :: szsT (ts.take k)) u0 (.slice sd u.binds.length se) (.slice sa u.args.length sc) (wr.alloc (.cells #[.slice sd u.binds.length se, .int .i64 u.kind, .int .i64 u.idx, .slice sa u.args.length sc] 34)) (by rw [hlk]; exact hrk.alloc _) (by simp; omega) (hsb2.alloc _) (hs2.alloc _) (by rw [hlk]; omega)
      rw [hlk] at hcall
      have hgx : w.grownBy (wr.alloc (.cells #[.slice sd u.binds.length se, .int .i64 u.kind, .int .i64 u.idx, .slice sa u.args.length sc] 34)) (Value.slice va n vc).ownBlock := grown_alloc hgk _
      have hBx : B ≤ wr.heap.size := by have := hgk.size; omega
      clear a0 a1 a2 a3 hu hkb hlk ih hs2 hsb2
      go_wp2_with (go_at_call 66; refine hcall.mono ?_; rintro e w3 ⟨v3, rfl, hr3, hg3, hs3⟩)
      go_roundw
      case rel => exact ⟨k + 1, v3, by omega, by go_num, rfl, by rw [HS2.out, HZ2.out]; simpa [Nat.add_assoc] using hr3, grown_trans hgx (by rw [hB]; exact hsk) hg3, hsk.trans hs3 (by simp; omega), by have := hg3.size; simp at this; omega⟩
      case measure => simp [intOf]; omega
    · obtain rfl : k = ts.length := by omega
      rw [List.take_length] at hrk
      obtain ⟨g, vc', rfl, hMg, hgl⟩ := hrk.form (by omega)
      have hset := row_set hrk n (.int .i64 (t.size : Int))
      have hcl := World.ownsRow.cellAt hrk
      have hn0 : (ints (l0 ++ 0 :: szsT ts))[n]? = some (.int .i64 0) := by
        unfold ints
        rw [List.getElem?_map, List.getElem?_append_right (by rw [HN.out]; exact Nat.le_refl _), HN.out, Nat.sub_self]
        rfl
      have c0 : wr.cell? ⟨g, n, none⟩ = some (.int .i64 0) := (hcl n (by omega)).trans hn0
      have f0 := row_frozen hrk n
      have HI : Hid ((ints (l0 ++ 0 :: szsT ts)).set n (.int .i64 (t.size : Int)) = ints (l0 ++ t.szs)) := by
        show _ = _
        rw [HZ.out]
        unfold ints
        rw [List.map_append, List.map_append, List.set_append_right _ _ (by rw [List.length_map, HN.out]; exact Nat.le_refl _), List.length_map, HN.out, Nat.sub_self]
        rfl
      rw [HI.out] at hset
      have HT : Hid ((n : Int) + 1 + (sizeT ts : Int) - (n : Int) = (t.size : Int)) := by show _ = _; rw [HS.out]; omega
      have hg9 : w.grownBy (wr.setCell ⟨g, n, none⟩ (.int .i64 (t.size : Int))) (Value.slice va n vc).ownBlock := grown_set hgk (by rw [hB]; exact hsk) rfl n _
      have hnn : n + t.size = n + 1 + sizeT ts := by rw [HS.out]; omega
      clear hcl hn0 hrk
      go_wp2
      rw [HT.out]
      go_ret
      exact ⟨_, rfl, by rw [hnn]; exact hset, hg9, hsk⟩

end Go.Proofs.Ytheokboggjnenaa
