/-
  The contract of kind.sizes: the sizes of a type and of all types within, behind a list.
-/
import Derived.Test.YtheokboggjnenaaRefCompare
namespace Go.Proofs.Ytheokboggjnenaa
open Go Go.RowKit Go.Sort

def ints (l : List Int) : List Value := l.map (Value.int .i64)
theorem ints_append (a b : List Int) : ints (a ++ b) = ints a ++ ints b := List.map_append
theorem ints_length (a : List Int) : (ints a).length = a.length := List.length_map _
theorem info3 : (Try.prog.info? 3).map (fun i => (i.zero, i.size, i.bytes)) = some (some (.int .i64 0), 1, 8) := by kernel_rfl

/-- The row stays where it was, or goes to a new block. -/
def OwnStep (n : Nat) (v v' : Value) : Prop := v'.ownBlock = v.ownBlock ∨ ∃ b, v'.ownBlock = some b ∧ n ≤ b
theorem OwnStep.refl (n : Nat) (v : Value) : OwnStep n v v := .inl rfl
theorem OwnStep.trans {n m : Nat} {a b c : Value} (h : OwnStep n a b) (k : OwnStep m b c) (hnm : n ≤ m) : OwnStep n a c := by
  rcases k with k | ⟨x, k, hx⟩
  · rcases h with h | ⟨y, h, hy⟩
    · exact .inl (k.trans h)
    · exact .inr ⟨y, k.trans h, hy⟩
  · exact .inr ⟨x, k, by omega⟩
theorem OwnStep.ne {n : Nat} {a b : Value} (h : OwnStep n a b) {k : Nat} (hk : k < n) (hn : a.ownBlock ≠ some k) : b.ownBlock ≠ some k := by
  rcases h with h | ⟨y, h, hy⟩
  · rw [h]; exact hn
  · rw [h]; intro e; cases e; omega
theorem grown_trans {a b c : World} {v vk : Value} (h : a.grownBy b v.ownBlock) (hs : OwnStep a.heap.size v vk) (k : b.grownBy c vk.ownBlock) : a.grownBy c v.ownBlock :=
  ⟨k.os.trans h.os, k.tape.trans h.tape, k.output.trans h.output, Nat.le_trans h.size k.size, fun j hj hn =>
    (k.block j (Nat.lt_of_lt_of_le hj h.size) (fun e => hs.ne hj (fun e' => hn e'.symm) e.symm)).trans (h.block j hj hn)⟩
theorem grown_refl (a : World) (r : Option Nat) : a.grownBy a r := ⟨rfl, rfl, rfl, Nat.le_refl _, fun _ _ _ => rfl⟩
theorem grown_alloc {a b : World} {r : Option Nat} (h : a.grownBy b r) (o : Obj) : a.grownBy (b.alloc o) r :=
  ⟨h.os, h.tape, h.output, Nat.le_trans h.size (by simp), fun j hj hn => (Below.heap_alloc b o j (Nat.lt_of_lt_of_le hj h.size)).trans (h.block j hj hn)⟩
theorem grown_set {a b : World} {v vk : Value} (h : a.grownBy b v.ownBlock) (hs : OwnStep a.heap.size v vk) {g : Nat} (hg : vk.ownBlock = some g) (i : Nat) (u : Value) : a.grownBy (b.setCell ⟨g, i, none⟩ u) v.ownBlock :=
  grown_trans h hs (by rw [hg]; exact grownBy_setCell_at b g i u)
theorem Holds.grown {w w' : World} {v vk : Value} {ts : List Ty} {sl : Value} (h : Holds w (fun b => v.ownBlock ≠ some b) ts sl) (hg : w.grownBy w' v.ownBlock) (hs : OwnStep w.heap.size v vk) : Holds w' (fun b => vk.ownBlock ≠ some b) ts sl :=
  h.keep fun b hb ho => ⟨hg.block b hb (fun e => ho e.symm), hs.ne hb ho⟩

theorem cell_one (w : World) (B : Nat) (hB : w.heap.size = B) (x : Value) (t : TypeId) : ∀ j u, [x][j]? = some u → (w.alloc (.cells #[x] t)).cell? ((⟨B, 0, none⟩ : Addr).add j) = some u := by
  intro j u h
  have hb := Blk.new' w B t #[x] hB
  match j with
  | 0 => simp at h; subst h; exact hb.cell 0
  | j + 1 => simp at h

set_option maxRecDepth 100000 in
set_option maxHeartbeats 3200000 in
theorem sizes_calls (M : Nat) (t : Ty) : ∀ (l0 : List Int) (v sl : Value) (w : World), w.ownsRow M 3 1 v l0.length (ints l0) → M ≤ w.heap.size → Holds w (fun b => v.ownBlock ≠ some b) t.args sl → l0.length + t.size ≤ 1000000 →
    Calls Try.prog 132 #[v, tv sl t.base] w fun e w' => ∃ v', e = .returned v' ∧ w'.ownsRow M 3 1 v' (l0.length + t.size) (ints (l0 ++ t.szs)) ∧ w.grownBy w' v.ownBlock ∧ OwnStep w.heap.size v v' := by
  induction t using Ty.ind with
  | h t ih =>
  intro l0 v sl w hrow hMw hh hsz
  obtain ⟨va, vc, rfl⟩ := row_shape hrow
  obtain ⟨n, hn⟩ : ∃ n, l0.length = n := ⟨_, rfl⟩
  rw [hn] at hsz
  have HN : Hid (l0.length = n) := hn
  rw [hn] at hrow hh ⊢
  clear hn
  obtain ⟨ts, hts⟩ : ∃ ts, t.args = ts := ⟨_, rfl⟩
  have hsz2 := t.size_eq
  have hze := t.szs_eq
  rw [hts] at hsz2 hze hh ih
  have HZ : Hid _ := hze
  have HS : Hid _ := hsz2
  clear hze
  obtain ⟨a, cap, rfl, hcap, hat⟩ := hh.shape
  have HA : Hid _ := hat
  clear hat
  have hln := sizeL_length ts
  have hlb : sizeL ts < t.size := by omega
  clear hsz2
  obtain ⟨i0, hi, hz0, hz1, hz2⟩ := info_parts info3
  obtain ⟨B, hB⟩ : ∃ B, w.heap.size = B := ⟨_, rfl⟩
  rw [hB] at hMw ⊢
  have hvl : ∀ b, (Value.slice va n vc).ownBlock = some b → b < B := fun b hb => by rw [← hB]; exact (hrow.lt b hb).2
  go_enter Try.func132, Try.ntmps132
  go_wp2_with (at_builtin; refine wpList_append_lies _ rfl _ _ 41 rfl M 3 i0 (.int .i64 0) 1 8 Try.underlying41 hi hz0 hz1 hz2 rfl (by decide) _ n (ints l0) rfl ((hrow.alloc _).alloc _) ⟨B + 1, 0, none⟩ 1 1 [.int .i64 0] rfl rfl (cell_one _ (B + 1) (by simp [hB]) _ _) (by simp [Value.oneCell']) (by omega) (by unfold maxLen; omega) (by omega) (by simp; omega) _ rfl ?_; intro g2 cap2 w2 hown2 hgrow2 hat2 hlt2; have b2 : Blk w2 B 63 #[.slice a ts.length cap, .int .i64 t.base] := ((Blk.new' w B 63 _ hB).alloc _).kept hgrow2 (fun e => by have := hvl B e.symm; omega); have c0 := b2.cell 0)
  have hg0 : w.grownBy w2 (Value.slice va n vc).ownBlock := grown_trans (vk := .slice va n vc) (grown_alloc (grown_alloc (grown_refl w _) _) _) (OwnStep.refl _ _) hgrow2
  have hst : OwnStep B (.slice va n vc) (.slice (some ⟨g2, 0, none⟩) (n + 1) cap2) := by
    rcases hat2 with h | h
    · exact .inl h.symm
    · exact .inr ⟨g2, rfl, by rw [h]; simp [hB]; omega⟩
  have hM2 : M ≤ w2.heap.size := by have := b2.lt; omega
  have hown2' : w2.ownsRow M 3 1 (.slice (some ⟨g2, 0, none⟩) (n + 1) cap2) (n + 1) (ints (l0 ++ [0])) := by rw [ints_append]; exact hown2
  clear hown2 hgrow2 hat2 hlt2
  go_loopw [0, 16] (fun l i wr => ∃ (k : Nat) (vk : Value), k ≤ ts.length ∧ i = .int .i64 k ∧ l = vk ∧ wr.ownsRow M 3 1 vk (n + 1 + sizeL (ts.take k)) (ints (l0 ++ 0 :: szsL (ts.take k))) ∧ w.grownBy wr (Value.slice va n vc).ownBlock ∧ OwnStep B (.slice va n vc) vk ∧ M ≤ wr.heap.size)
    (fun _ i _ => ts.length - (intOf i).toNat)
  case atStart => exact ⟨0, _, Nat.zero_le _, rfl, rfl, hown2', hg0, hst, hM2⟩
  case round =>
    clear hown2' hg0 hst hM2 c0 b2
    obtain ⟨k, vk, hk, rfl, rfl, hrk, hgk, hsk, hMk⟩ := hrel
    have hle := sizeL_take_le ts k
    by_cases hlt : k < ts.length
    · obtain ⟨u, hu⟩ : ∃ u, ts[k]? = some u := ⟨_, List.getElem?_eq_getElem hlt⟩
      obtain ⟨g, o, s, rfl, hgo, hg, a0, a1, hs⟩ := HA.out k u hu
      have hkb := hgk.block g hg (fun e => hgo e.symm)
      have q0 := (World.cell?_of_block (w := w) (a := ⟨g, o + k * 2, none⟩) hkb).trans a0
      have q1 := (World.cell?_of_block (w := w) (a := ⟨g, o + k * 2 + 1, none⟩) hkb).trans a1
      have hm := List.mem_of_getElem? hu
      have hus := size_mem hm
      have hle2 : sizeL (ts.take k) + u.size ≤ sizeL ts := by rw [← sizeL_take hu]; exact sizeL_take_le ts (k + 1)
      have HS2 : Hid (sizeL (ts.take (k + 1)) = sizeL (ts.take k) + u.size) := sizeL_take hu
      have HZ2 : Hid (szsL (ts.take (k + 1)) = szsL (ts.take k) ++ u.szs) := szsL_take hu
      have y1 : (0 : Int) ≤ (k : Int) := by omega
      have y2 : (k : Int) < (ts.length : Int) := by omega
      obtain ⟨sa, sc, rfl, _⟩ := hs.shape
      have hs2 := hs.grown hgk (by rw [hB]; exact hsk)
      have hlk : (l0 ++ 0 :: szsL (ts.take k)).length = n + 1 + sizeL (ts.take k) := by rw [List.length_append, List.length_cons, szsL_len, HN.out]; omega
      have hcall := ih u hm (l0 ++ 0 :: szsL (ts.take k)) u0 (.slice sa u.args.length sc) (wr.alloc (.cells #[.slice sa u.args.length sc, .int .i64 u.base] 63)) (by rw [hlk]; exact hrk.alloc _) (by simp; omega) (hs2.alloc _) (by rw [hlk]; omega)
      rw [hlk] at hcall
      have hgx : w.grownBy (wr.alloc (.cells #[.slice sa u.args.length sc, .int .i64 u.base] 63)) (Value.slice va n vc).ownBlock := grown_alloc hgk _
      have hBx : B ≤ wr.heap.size := by have := hgk.size; omega
      clear a0 a1 hu hkb hlk ih hs2
      go_wp2_with (go_at_call 132; refine hcall.mono ?_; rintro e w3 ⟨v3, rfl, hr3, hg3, hs3⟩)
      go_roundw
      case rel => exact ⟨k + 1, v3, by omega, by go_num, rfl, by rw [HS2.out, HZ2.out]; simpa [Nat.add_assoc] using hr3, grown_trans hgx (by rw [hB]; exact hsk) hg3, hsk.trans hs3 (by simp; omega), by have := hg3.size; simp at this; omega⟩
      case measure => simp [intOf]; omega
    · obtain rfl : k = ts.length := by omega
      rw [List.take_length] at hrk
      obtain ⟨g, vc', rfl, hMg, hgl⟩ := hrk.form (by omega)
      have hset := row_set hrk n (.int .i64 (t.size : Int))
      have hcl := World.ownsRow.cellAt hrk
      have hn0 : (ints (l0 ++ 0 :: szsL ts))[n]? = some (.int .i64 0) := by
        unfold ints
        rw [List.getElem?_map, List.getElem?_append_right (by rw [HN.out]; exact Nat.le_refl _), HN.out, Nat.sub_self]
        rfl
      have c0 : wr.cell? ⟨g, n, none⟩ = some (.int .i64 0) := (hcl n (by omega)).trans hn0
      have f0 := row_frozen hrk n
      have HI : Hid ((ints (l0 ++ 0 :: szsL ts)).set n (.int .i64 (t.size : Int)) = ints (l0 ++ t.szs)) := by
        show _ = _
        rw [HZ.out]
        unfold ints
        rw [List.map_append, List.map_append, List.set_append_right _ _ (by rw [List.length_map, HN.out]; exact Nat.le_refl _), List.length_map, HN.out, Nat.sub_self]
        rfl
      rw [HI.out] at hset
      have HT : Hid ((n : Int) + 1 + (sizeL ts : Int) - (n : Int) = (t.size : Int)) := by show _ = _; rw [HS.out]; omega
      have hg9 : w.grownBy (wr.setCell ⟨g, n, none⟩ (.int .i64 (t.size : Int))) (Value.slice va n vc).ownBlock := grown_set hgk (by rw [hB]; exact hsk) rfl n _
      have hnn : n + t.size = n + 1 + sizeL ts := by rw [HS.out]; omega
      clear hcl hn0 hrk
      go_wp2
      rw [HT.out]
      go_ret
      exact ⟨_, rfl, by rw [hnn]; exact hset, hg9, hsk⟩

end Go.Proofs.Ytheokboggjnenaa
