/-
  Rows that slices.Sort and slices.Compact have gone over; the marks of loops over functions that have ended.
-/
import Derived.Test.YtheokboggjnenaaShelf
import Derived.Test.YtheokboggjnenaaLoopsF
import Derived.Test.YtheokboggjnenaaSizesT
import Derived.Test.YtheokboggjnenaaFresh
import Derived.Maps.AppendAt
import Derived.Test.YtheokboggjnenaaSizeH
namespace Go.Proofs.Ytheokboggjnenaa
open Go Go.RowKit Go.Shelf

attribute [local go_sem] Oper.semAt_some

/-- The marks of loops over functions that have ended, none of them met yet. -/
def Marks (N : Nat) : List Deferred → World → Prop
  | [], _ => True
  | d :: ds, W => ∃ D, d = { target := .collected D, args := #[] } ∧ N ≤ D ∧ W.heap[D]? = some (.deferred (some [])) ∧ (∀ d' ∈ ds, ∀ D', d'.target = .collected D' → D' ≠ D) ∧ Marks N ds W
/-- What is no cells and lay below n lies as it lay. -/
def KeepLow (n : Nat) (W W' : World) : Prop := ∀ k o, k < n → W.heap[k]? = some o → o.isCells = false → W'.heap[k]? = some o
theorem Marks.low {N n : Nat} {W W' : World} (hk : KeepLow n W W') (hn : W.heap.size ≤ n) : ∀ {ds : List Deferred}, Marks N ds W → Marks N ds W'
  | [], _ => trivial
  | d :: ds, ⟨D, h1, h2, h3, h4, h5⟩ => ⟨D, h1, h2, hk D _ (by have := (Array.getElem?_eq_some_iff.1 h3).1; omega) h3 rfl, h4, Marks.low hk hn h5⟩
theorem Marks.lt {N : Nat} {W : World} : ∀ {ds : List Deferred}, Marks N ds W → ∀ d' ∈ ds, ∀ D', d'.target = .collected D' → D' < W.heap.size
  | [], _, d', h, _, _ => by cases h
  | d :: ds, ⟨D, h1, h2, h3, h4, h5⟩, d', h, D', e => by
    rcases List.mem_cons.1 h with rfl | h
    · rw [h1] at e
      cases e
      exact (Array.getElem?_eq_some_iff.1 h3).1
    · exact Marks.lt h5 d' h D' e
theorem Marks.put {N E : Nat} {W : World} {o : Obj} : ∀ {ds : List Deferred}, Marks N ds W → (∀ d' ∈ ds, ∀ D', d'.target = .collected D' → D' ≠ E) → Marks N ds (W.putObj E o)
  | [], _, _ => trivial
  | d :: ds, ⟨D, h1, h2, h3, h4, h5⟩, h => ⟨D, h1, h2, (World.putObj_heap_other (h d (by simp) D (by rw [h1]))).trans h3, h4, Marks.put h5 (fun d' hd => h d' (by simp [hd]))⟩
/-- A function's way out, past its marks. -/
theorem leaves_marks {F : Fence} {n N : Nat} {P : Program} {fn : Func} {tmps : Array Value} {R : Ending → World → Prop} (S : World → Prop)
    (hS : ∀ W D, S W → N ≤ D → W.heap[D]? = some (.deferred (some [])) → S (W.putObj D (.deferred none)))
    (hR : ∀ W, S W → ∃ v, (results fn tmps).run P W = .ok v W ∧ R (.returned v) W) : ∀ (ds : List Deferred) (W : World), Marks N ds W → S W → LeavesInM F n P fn tmps R ds .returning W
  | [], W, _, hs => hR W hs
  | d :: ds, W, ⟨D, h1, h2, h3, h4, h5⟩, hs => by
    subst h1
    exact ⟨by simp, .inl ⟨_, _, rfl, run_takeDeferred h3, leaves_marks S hS hR ds _ (Marks.put h5 h4) (hS W D hs h2 h3)⟩⟩

theorem blk_not_row {W : World} {j : Nat} {t e : TypeId} {vs : Array Value} {n0 size k : Nat} {v : Value} {xs : List Value} (h : Blk W j t vs) (hr : W.ownsRow n0 e size v k xs) (hte : t ≠ e) : some j ≠ v.ownBlock := by
  intro he
  rcases hr.2 with ⟨rfl, _⟩ | ⟨g, cap, cur, rfl, _, e3, _⟩
  · cases he
  · obtain rfl : j = g := by simpa [Value.ownBlock] using he
    rw [show W.heap[j]? = _ from h] at e3
    simp at e3
    exact hte e3.2

def accOf (l : List Int) : Nat → List Int
  | 0 => []
  | k + 1 => accOf l k ++ l
theorem accOf_length (l : List Int) (k : Nat) : (accOf l k).length = k * l.length := by
  induction k with
  | zero => simp [accOf]
  | succ k ih => simp [accOf, ih, Nat.add_mul]
theorem ints_snoc (a : List Int) (x : Int) : ints a ++ [.int .i64 x] = ints (a ++ [x]) := by rw [ints_append]; rfl

/-- Of a rising row what is kept rises, and holds just what the row holds. -/
theorem comp_spec (d : Array Int) (hs : ∀ i j, i ≤ j → j < d.size → d[i]! ≤ d[j]!) : ∀ m, m ≤ d.size → (Lib.compactUpTo d m).Pairwise (· < ·) ∧ ∀ z, z ∈ Lib.compactUpTo d m ↔ ∃ j, j < m ∧ d[j]! = z := by
  intro m
  induction m with
  | zero => intro _; exact ⟨by simp [Lib.compactUpTo], fun z => by simp [Lib.compactUpTo]⟩
  | succ m ih =>
    intro hm
    obtain ⟨h1, h2⟩ := ih (by omega)
    rw [Lib.compactUpTo_succ]
    by_cases hk : Lib.keeps d m = true
    · rw [if_pos hk]
      refine ⟨List.pairwise_append.2 ⟨h1, by simp, fun a ha b hb => ?_⟩, fun z => ?_⟩
      · obtain ⟨j, hj, rfl⟩ := (h2 a).1 ha
        rw [List.mem_singleton.1 hb]
        have h3 : m = 0 ∨ d[m]! ≠ d[m - 1]! := of_decide_eq_true hk
        have h4 := hs j (m - 1) (by omega) (by omega)
        have h5 := hs (m - 1) m (by omega) (by omega)
        have h6 : d[m]! ≠ d[m - 1]! := by
          rcases h3 with h3 | h3
          · omega
          · exact h3
        omega
      · rw [List.mem_append, h2 z, List.mem_singleton]
        constructor
        · rintro (⟨j, hj, e⟩ | e)
          · exact ⟨j, by omega, e⟩
          · exact ⟨m, by omega, e.symm⟩
        · rintro ⟨j, hj, e⟩
          by_cases hjm : j = m
          · subst hjm; exact .inr e.symm
          · exact .inl ⟨j, by omega, e⟩
    · rw [if_neg hk, List.append_nil]
      refine ⟨h1, fun z => ?_⟩
      rw [h2 z]
      have h3 : m ≠ 0 ∧ d[m]! = d[m - 1]! := by
        have : ¬ (m = 0 ∨ d[m]! ≠ d[m - 1]!) := fun h => hk (decide_eq_true h)
        constructor
        · exact fun h => this (.inl h)
        · exact Classical.byContradiction fun h => this (.inr h)
      constructor
      · rintro ⟨j, hj, e⟩
        exact ⟨j, by omega, e⟩
      · rintro ⟨j, hj, e⟩
        by_cases hjm : j = m
        · subst hjm; exact ⟨j - 1, by omega, by rw [← h3.2]; exact e⟩
        · exact ⟨j, by omega, e⟩
def sortI (zs : List Int) : List Int := zs.mergeSort fun x y => decide (x ≤ y)
theorem bases_spec (zs : List Int) : (Lib.compact (sortI zs)).Pairwise (· < ·) ∧ ∀ z, z ∈ Lib.compact (sortI zs) ↔ z ∈ zs := by
  have hp : (sortI zs).Pairwise fun x y => decide (x ≤ y) = true := List.pairwise_mergeSort (fun a b c h1 h2 => by simp at *; omega) (fun a b => by simp; omega) zs
  have hs : ∀ i j, i ≤ j → j < (sortI zs).toArray.size → (sortI zs).toArray[i]! ≤ (sortI zs).toArray[j]! := by
    intro i j hij hj
    have hj' : j < (sortI zs).length := by simpa using hj
    rw [getElem!_pos (sortI zs).toArray i (Nat.lt_of_le_of_lt hij hj), getElem!_pos (sortI zs).toArray j hj]
    rcases Nat.lt_or_ge i j with h | h
    · have := List.pairwise_iff_getElem.1 hp i j (by omega) hj' h
      simpa using this
    · obtain rfl : i = j := by omega
      exact Int.le_refl _
  obtain ⟨h1, h2⟩ := comp_spec _ hs (sortI zs).length (by simp)
  refine ⟨h1, fun z => ?_⟩
  unfold Lib.compact
  rw [h2 z]
  constructor
  · rintro ⟨j, hj, e⟩
    rw [getElem!_pos (sortI zs).toArray j (by rw [List.size_toArray]; exact hj)] at e
    have : z ∈ sortI zs := by rw [← e]; simp
    exact List.mem_mergeSort.1 this
  · intro hz
    obtain ⟨j, hj, e⟩ := List.getElem_of_mem (List.mem_mergeSort.2 hz : z ∈ sortI zs)
    exact ⟨j, hj, by rw [getElem!_pos (sortI zs).toArray j (by rw [List.size_toArray]; exact hj), List.getElem_toArray]; exact e⟩
theorem mem_accOf (l : List Int) (k : Nat) (z : Int) (hk : 0 < k) : z ∈ accOf l k ↔ z ∈ l := by
  induction k with
  | zero => omega
  | succ k ih =>
    rw [accOf, List.mem_append]
    by_cases h0 : k = 0
    · subst h0; simp [accOf]
    · rw [ih (by omega)]; simp
theorem putRow_other (w : World) (g k q : Nat) (d : Array Int) (h : k ≠ g) : (Sort.putRow (Value.int .i64) (Sort.ahead w q) g 0 d).heap[k]? = w.heap[k]? := by
  simp [Sort.putRow, Sort.mapBlock, Sort.ahead, Array.getElem?_modify, h.symm]

theorem sortI_length (zs : List Int) : (sortI zs).length = zs.length := List.length_mergeSort zs
theorem sort_after {w wr w2 : World} {g N n2 : Nat} {acc : List Int} {os2 : Array Obj} (hH : Sort.Holds (Value.int .i64) wr g 0 acc.toArray) (hgl : g < wr.heap.size) (hg : N ≤ g) (hbl : Below N w wr)
    (hw2 : w2 = Sort.grow (Sort.putRow (Value.int .i64) (Sort.ahead wr n2) g 0 (sortI acc).toArray) os2) : Sort.Holds (Value.int .i64) w2 g 0 (sortI acc).toArray ∧ Below N w w2 ∧ ∀ k, k ≠ g → k < wr.heap.size → w2.heap[k]? = wr.heap[k]? := by
  have hs : (Sort.putRow (Value.int .i64) (Sort.ahead wr n2) g 0 (sortI acc).toArray).heap.size = wr.heap.size := by simp [Sort.putRow, Sort.mapBlock, Sort.ahead]
  have hk : ∀ k, k ≠ g → k < wr.heap.size → w2.heap[k]? = wr.heap[k]? := fun k h hl => by
    rw [hw2, Sort.heap_grow_old _ _ (by rw [hs]; exact hl)]
    exact putRow_other wr g k n2 _ h
  refine ⟨?_, ⟨?_, ?_, ?_, ?_, fun k hkN => ?_⟩, hk⟩
  · rw [hw2]
    exact Sort.holds_grow _ _ _ _ _ _ (by rw [hs]; exact hgl) (Sort.holds_putRow _ _ _ _ _ _ (Sort.holds_ahead _ _ _ _ _ _ hH) (by simp [sortI_length]))
  · rw [hw2]; exact hbl.os
  · rw [hw2]; exact hbl.tape
  · rw [hw2]; exact hbl.output
  · have := hbl.size
    rw [hw2]
    simp [Sort.grow, hs]
    omega
  · rcases Nat.lt_or_ge k wr.heap.size with h | h
    · exact (hk k (by omega) h).trans (hbl.block k hkN)
    · omega

theorem compact_after {w w2 w3 : World} {g N n3 : Nat} {acc : List Int} (hH : Sort.Holds (Value.int .i64) w2 g 0 (sortI acc).toArray) (hg : N ≤ g) (hbl : Below N w w2)
    (hw3 : w3 = Sort.putRow (Value.int .i64) (Sort.ahead w2 n3) g 0 (Lib.compact (sortI acc) ++ List.replicate (acc.length - (Lib.compact (sortI acc)).length) 0).toArray) :
    (∀ j z, (Lib.compact (sortI acc))[j]? = some z → w3.cell? ⟨g, j, none⟩ = some (.int .i64 z)) ∧ Below N w w3 ∧ ∀ k, k ≠ g → w3.heap[k]? = w2.heap[k]? := by
  have hcl := Lib.compact_length_le (sortI acc)
  rw [sortI_length] at hcl
  have hs : (Lib.compact (sortI acc) ++ List.replicate (acc.length - (Lib.compact (sortI acc)).length) 0).toArray.size = (sortI acc).toArray.size := by
    simp [sortI_length]
    omega
  have hk : ∀ k, k ≠ g → w3.heap[k]? = w2.heap[k]? := fun k h => by
    rw [hw3]
    exact putRow_other w2 g k n3 _ h
  refine ⟨fun j z hz => ?_, ⟨?_, ?_, ?_, ?_, fun k hkN => ?_⟩, hk⟩
  · have hj := (List.getElem?_eq_some_iff.1 hz).1
    have hj2 : j < (Lib.compact (sortI acc) ++ List.replicate (acc.length - (Lib.compact (sortI acc)).length) 0).toArray.size := by simp; omega
    have := Sort.cell?_putRow (Value.int .i64) (Sort.ahead w2 n3) g 0 (sortI acc).toArray _ (Sort.holds_ahead _ _ _ _ _ _ hH) hs j hj2
    rw [Nat.zero_add] at this
    rw [hw3, this, getElem!_pos _ j hj2, List.getElem_toArray, List.getElem_append_left hj, (List.getElem?_eq_some_iff.1 hz).2]
  · rw [hw3]; exact hbl.os
  · rw [hw3]; exact hbl.tape
  · rw [hw3]; exact hbl.output
  · have := hbl.size
    rw [hw3]
    simp [Sort.putRow, Sort.mapBlock, Sort.ahead]
    omega
  · exact (hk k (by omega)).trans (hbl.block k hkN)

end Go.Proofs.Ytheokboggjnenaa

/-
  The contract of term.Metas, of one term told twice.
-/
namespace Go.Proofs.Ytheokboggjnenaa
open Go Go.RowKit Go.Shelf

attribute [local go_sem] Oper.semAt_some

/-- The metavariables among heads. -/
def metI (l : List Hd) : List Int := l.filterMap fun p => if p.kind = 2 then some p.idx else none
theorem metI_append (a b : List Hd) : metI (a ++ b) = metI a ++ metI b := List.filterMap_append
theorem metI_snoc (a : List Hd) (p : Hd) : metI (a ++ [p]) = metI a ++ (if p.kind = 2 then [p.idx] else []) := by
  rw [metI_append]
  unfold metI
  by_cases h : p.kind = 2 <;> simp [h]
theorem metI_length (l : List Hd) : (metI l).length ≤ l.length := List.length_filterMap_le _ _

/-- What the round of the loop over the heads keeps. -/
def IM (w : World) (N : Nat) (acc : List Int) (W0 : World) (l : List Hd) (W : World) : Prop :=
  ((∃ v, Boxed W N 41 v ∧ W.ownsRow N 3 1 v (acc ++ metI l).length (ints (acc ++ metI l))) ∧ KeepLow W0.heap.size W0 W) ∧ Below N w W
theorem row_free {β : Type} {N B : Nat} (hB : N < B) (f : β → List Int) : FreeFrom B (fun s W => ∃ v, Boxed W N 41 v ∧ W.ownsRow N 3 1 v (f s).length (ints (f s))) := fun s A C row hs hg hr => by
  obtain ⟨v, hv, hr2⟩ := hs
  refine ⟨v, hv.kept hg (fun e => by have := (hr N e.symm).1; omega), hr2.kept hg ?_⟩
  rcases hr2.2 with ⟨rfl, _⟩ | ⟨g, cap, cur, rfl, _, e3, _⟩
  · exact .inl rfl
  · exact .inr (fun e => by
      rcases (hr g (by simpa [Value.ownBlock] using e.symm)).2 3 cur e3 with h | h | h <;> exact absurd h (by decide))
theorem low_free {β : Type} {W0 : World} : FreeFrom W0.heap.size (fun (_ : β) W => KeepLow W0.heap.size W0 W) := fun s A C row hs hg hr i o hi h0 hc => by
  have hA := hs i o hi h0 hc
  exact (hg.block i (Array.getElem?_eq_some_iff.1 hA).1 (fun e => by have := (hr i e.symm).1; omega)).trans hA
theorem IM_free {w W0 : World} {N : Nat} {acc : List Int} (h1 : N ≤ w.heap.size) (h2 : N < W0.heap.size) : FreeFrom W0.heap.size (IM w N acc W0) :=
  FreeFrom.and (FreeFrom.and (row_free h2 fun l => acc ++ metI l) low_free) (freeFrom_below h1 (by omega))

def actM (N G : Nat) (u5 u10 u11 u12 u13 u14 u15 u26 : Value) (ds : List Deferred) : Act :=
  { tmps := #[.slice (some ⟨G, 0, none⟩) 2 2, undef, .slice none 0 0, .pointer (some ⟨N, 0, none⟩), undef, u5, undef, undef, .slice (some ⟨G, 0, none⟩) 2 2, .int .i64 2, u10, u11, u12, u13, u14, u15, undef, undef, undef, undef, undef, undef, undef, undef, undef, undef, u26, undef, undef, undef, undef], defers := ds }

set_option maxRecDepth 100000 in
set_option maxHeartbeats 2000000 in
theorem Metas_calls (t : Tm) (G : Nat) (ok : Nat → Prop) (w : World) (hh : HoldsT w ok [t, t] (.slice (some ⟨G, 0, none⟩) 2 2)) (hsz : t.total ≤ 1000) :
    Calls Try.prog 21 #[.slice (some ⟨G, 0, none⟩) 2 2] w fun e w' => ∃ (a : Option Addr) (cap : Nat) (bs : List Int), e = .returned (.slice a bs.length cap) ∧ (∀ j z, bs[j]? = some z → ∃ g, a = some ⟨g, 0, none⟩ ∧ w'.cell? ⟨g, j, none⟩ = some (.int .i64 z)) ∧ bs.length ≤ 2000 ∧ bs.Pairwise (· < ·) ∧ (∀ z, z ∈ bs ↔ z ∈ metI (t.heads 1 0)) ∧ Below w.heap.size w w' := by
  refine (callsIn_wide (n := 9)).1 ?_
  have h1 : 1 ≤ 9 := by omega
  have hf56 : Fence.wide.fn 56 := trivial
  have hf59 : Fence.wide.fn 59 := trivial
  have hf60 : Fence.wide.fn 60 := trivial
  have hdd : ∀ k : Nat, (Fence.wide.depth.isSome = true → 1 ≤ k) := fun k h => by cases h
  obtain ⟨N, hN⟩ : ∃ N, w.heap.size = N := ⟨_, rfl⟩
  rw [hN]
  obtain ⟨j0, hj, hy0, hy1, hy2⟩ := info_parts info3
  have hh0 : HoldsT w (fun b => b < N) [t, t] (.slice (some ⟨G, 0, none⟩) 2 2) := hh.mono fun b hb _ => by omega
  have HS : Hid _ := hh0.shape
  have hst := t.size_le_total
  refine callsIn_of_wp_marks Try.func21 rfl trivial ?_ rfl
  simp only [Try.ntmps21, List.size_toArray, List.length_cons, List.length_nil, Nat.reduceAdd, Nat.reduceSub, Array.replicate_succ, Array.replicate_zero, List.push_toArray, List.append_toArray, List.nil_append, List.cons_append]
  gi_wp2
  generalize hw1 : w.alloc (.cells #[.slice none 0 0] 41) = w1
  have b1 : Boxed w1 N 41 (.slice none 0 0) := by rw [← hw1, ← hN]; exact Boxed.new _ _ _
  have bl1 : Below N w w1 := by rw [← hw1]; exact (Below.refl N w).alloc (by omega) _
  clear hw1
  refine wpIn_loop (fun a wr => ∃ (k : Nat) (ds : List Deferred) (u5 u11 u12 u13 u14 u15 u26 : Value), k ≤ 2 ∧ a = actM N G u5 (.int .i64 k) u11 u12 u13 u14 u15 u26 ds ∧ Marks N ds wr ∧ (∃ v, Boxed wr N 41 v ∧ wr.ownsRow N 3 1 v (accOf (metI (t.heads 1 0)) k).length (ints (accOf (metI (t.heads 1 0)) k))) ∧ Below N w wr)
    (fun a _ => 2 - (intOf (a.tmps.getD 10 undef)).toNat) ⟨0, [], _, _, _, _, _, _, _, by omega, rfl, trivial, ⟨_, b1, World.ownsRow_nil _ _ _ _⟩, bl1⟩ ?_
  clear b1 bl1
  rintro a wr ⟨k, ds, u5, u11, u12, u13, u14, u15, u26, hk, rfl, hmk, ⟨v, hbx, hrow⟩, hbl⟩
  unfold actM
  have hlen : (metI (t.heads 1 0)).length ≤ 1000 := by have := metI_length (t.heads 1 0); rw [t.heads_length] at this; omega
  by_cases hlt : k < 2
  · obtain ⟨ga, gc, e1, _, hat⟩ := HS.out
    cases e1
    have hu : [t, t][k]? = some t := by
      match k, hlt with
      | 0, _ => rfl
      | 1, _ => rfl
    obtain ⟨g, o, s, r, e1, hg, _, a0, a1, a2, a3, hs, hr⟩ := hat k t hu
    cases e1
    have q0 := (cat hbl hg).trans a0
    have q1 := (cat hbl hg).trans a1
    have q2 := (cat hbl hg).trans a2
    have q3 := (cat hbl hg).trans a3
    obtain ⟨sa, sc, hsl, _⟩ := hs.shape
    obtain ⟨ra, rc, hrl, _⟩ := hr.shape
    generalize t.binds.length = sn at hsl
    generalize t.args.length = rn at hrl
    subst hsl
    subst hrl
    have y1 : (0 : Int) ≤ (k : Int) := by omega
    have y2 : (k : Int) < 2 := by omega
    have z1 : decide ((k : Int) < 2) = true := by simp; omega
    have z2 : decide (k < 2) = true := by simp; omega
    have hw0 : 0 + k * 4 = k * 4 := by omega
    rw [hw0] at q0 q1 q2 q3
    clear a0 a1 a2 a3 hat hu
    have hwr : N ≤ wr.heap.size := by have := hbl.size; omega
    gi_wp2_with (gi_at_call 56; refine (heads_in _ _ _ _ _ _).mono ?_; rintro e w' ⟨rfl, rfl⟩)
    rename_i K Q' hKs
    obtain ⟨M, hM⟩ : ∃ M, wr.heap.size = M := ⟨_, rfl⟩
    rw [hM]
    obtain ⟨W0, hW0⟩ : ∃ W0, (wr.alloc (.cells #[.slice sa sn sc, .int .i64 t.kind, .int .i64 t.idx, .slice ra rn rc] 34)).alloc (.cells #[.slice sa sn sc, .int .i64 t.kind, .int .i64 t.idx, .slice ra rn rc] 34) = W0 := ⟨_, rfl⟩
    have b1 : Blk W0 (M + 1) 34 #[.slice sa sn sc, .int .i64 t.kind, .int .i64 t.idx, .slice ra rn rc] := by rw [← hW0]; exact Blk.new' _ (M + 1) 34 _ (by simp [hM])
    have hsz0 : W0.heap.size = M + 2 := by rw [← hW0]; simp [hM]
    have hb : Below N w W0 := by rw [← hW0]; exact (hbl.alloc (by omega) _).alloc (by simp; omega) _
    have hbx0 : Boxed W0 N 41 v := by rw [← hW0]; exact (hbx.alloc _).alloc _
    have hrow0 : W0.ownsRow N 3 1 v (accOf (metI (t.heads 1 0)) k).length (ints (accOf (metI (t.heads 1 0)) k)) := by rw [← hW0]; exact (hrow.alloc _).alloc _
    have hmk0 : Marks N ds W0 := hmk.low (n := wr.heap.size) (fun i o hi ho _ => by rw [← hW0]; exact (Below.heap_alloc _ _ _ (by simp; omega)).trans ((Below.heap_alloc _ _ _ hi).trans ho)) (Nat.le_refl _)
    rw [hW0]
    have HN : Hid (w.heap.size = N) := hN
    have HM : Hid (accOf (metI (t.heads 1 0)) k ++ metI (t.heads 1 0) = accOf (metI (t.heads 1 0)) (k + 1)) := rfl
    have hacl := accOf_length (metI (t.heads 1 0)) k
    generalize accOf (metI (t.heads 1 0)) k = acc at *
    have hal : acc.length ≤ 2000 := by rw [hacl]; have : k * (metI (t.heads 1 0)).length ≤ 1 * (metI (t.heads 1 0)).length := Nat.mul_le_mul_right _ (by omega); omega
    rw [hM] at hwr
    clear hW0 hbx hrow hmk q0 q1 q2 q3 hbl hM hacl hlen
    refine range_free rfl (by omega) (gf := 93) (lb := #[.pointer (some ⟨M + 1, 0, none⟩)]) rfl trivial (enters_of Try.func93 (by kernel_rfl) rfl)
      (heads_stops w (fun b => b < N) N (9 - 1) (M + 1) (fun _ h => h) t _ _ W0 b1 hs hr (by omega) (by omega) (KeepP.of_below (by rw [HN.out]; exact hb))) (Below.refl _ _) KpT.trans (fun W l o o' hl => KpT.put (n0 := N) (fun _ h => h) W l o o' (by omega)) (fun _ => rfl)
      (IM w N acc W0) (fun _ _ _ => False) (IM_free (by omega) (by omega)) (fun _ => false_free) ⟨⟨⟨v, hbx0, by simpa [metI] using hrow0⟩, fun i o _ h _ => h⟩, hb⟩ ?round ?done ?stop
    case round =>
      rintro l m pre x W K hW hl hI hlen hGx hK
      have HN9 := HN.out
      have hF : FreeFrom W0.heap.size (IM w N acc W0) := IM_free (by omega) (by omega)
      clear hGx hbx0 hrow0 hmk0 b1 hs hr hKs
      obtain ⟨X, hX⟩ : ∃ X, W.heap.size = X := ⟨_, rfl⟩
      obtain ⟨Wa, hWa⟩ : ∃ Wa, W.alloc (.cells #[.int .i64 x.kind, .int .i64 x.idx] 31) = Wa := ⟨_, rfl⟩
      have d0 : Blk Wa X 31 #[.int .i64 x.kind, .int .i64 x.idx] := by rw [← hWa]; exact Blk.new' _ X 31 _ (by simp [hX])
      have ka : KpT (fun b => b < N) W Wa := by rw [← hWa]; exact KpT.alloc W _
      have kf : KeepsFrom W0.heap.size W Wa := by rw [← hWa]; exact (KeepsOthers.alloc W _).from _
      have hI : IM w N acc W0 pre Wa := by rw [← hWa]; exact hF.alloc _ hI
      have HWa : Hid _ := hWa
      clear hWa
      gi_wp2
      rw [HWa.out]
      clear HWa
      refine hK _ _ kf (fun o o' ho hc _ => ?_)
      have k1 : KpT (fun b => b < N) W (Wa.putObj l o') := ka.trans (KpT.put (n0 := N) (fun _ h => h) Wa l o o' (by omega) ho hc)
      have d0 := d0.put o' ho hc
      have hI := hF.put hl ho hc o' hI
      clear hK ho hc ka kf hF
      generalize Wa.putObj l o' = W2 at *
      obtain ⟨⟨⟨v2, hv2, hr2⟩, hkl⟩, hb9⟩ := hI
      have hmp := metI_length pre
      have HL : Hid (metI (pre ++ [x]) = metI pre ++ (if x.kind = 2 then [x.idx] else [])) := metI_snoc pre x
      have HA : Hid (acc ++ (metI pre ++ [x.idx]) = (acc ++ metI pre) ++ [x.idx]) := (List.append_assoc _ _ _).symm
      obtain ⟨L, hL⟩ : ∃ L, acc ++ metI pre = L := ⟨_, rfl⟩
      rw [hL] at hr2 HA
      have hLl : L.length ≤ 4000 := by rw [← hL, List.length_append]; omega
      have HLL : Hid _ := hL
      clear hL
      have q0 := d0.cell 0
      have q1 := d0.cell 1
      have qv := hv2.cell
      have fv := hv2.frozen
      by_cases e1 : x.kind = 2
      · rw [e1] at q0
        have hNW : N < W2.heap.size := hv2.lt
        gi_wp2_with (gi_at_builtin; refine wpListIn_append_own _ rfl _ _ 41 rfl N 3 j0 (.int .i64 0) 1 8 Try.underlying41 hj hy0 hy1 hy2 rfl (by decide) _ _ _ rfl (hr2.alloc _) ⟨W2.heap.size, 0, none⟩ 1 1 [.int .i64 x.idx] rfl rfl (cell_one_new _ _ _) (by simp [Value.oneCell']) (by unfold maxLen; omega) (by omega) (by simp; omega) ?_; intro v' w1 hown' hgrow _; obtain ⟨g', cap', rfl⟩ := ownsRow_succ hown'; obtain ⟨hv1, hv3, hr3, hk3, hb3⟩ := hv2.appended (by decide) hr2 (by omega) (Nat.le_refl _) hown' hgrow; have hc1 := hv1.cell; have hf1 := hv1.frozen)
        refine ⟨hk3.from _, k1.trans ⟨⟨hb3.size, fun b hb _ => hb3.block b hb⟩, fun j tt vs ht hbk => ?_⟩, ⟨⟨_, hv3, ?_⟩, fun i o hi h0 hc => hk3.same i o (hkl i o hi h0 hc) hc⟩, hb9.trans hb3⟩
        · refine ((hbk.alloc _).kept hgrow (blk_not_row hbk hr2 (by rcases ht with rfl | rfl | rfl <;> decide))).other (fun e => ?_) 0 _
          subst e
          have := (show W2.heap[j]? = _ from hbk).symm.trans hv2
          simp at this
          rcases ht with rfl | rfl | rfl <;> exact absurd this.2 (by decide)
        · rw [HL.out, if_pos e1, HA.out, ← ints_snoc, List.length_append]
          exact hr3
      · have z1 : (x.kind == 2) = false := by simp [e1]
        gi_wp2
        refine ⟨KeepsFrom.refl _ _, k1, ⟨⟨v2, hv2, ?_⟩, hkl⟩, hb9⟩
        rw [HL.out, if_neg e1, List.append_nil, HLL.out]
        exact hr2
    case done =>
      rintro D ys W hD rfl ⟨⟨⟨v2, hv2, hr2⟩, hkl⟩, hbl⟩ hK
      have HN9 := HN.out
      rw [HM.out] at hr2
      gi_wp2
      refine ⟨⟨k + 1, { target := .collected D, args := #[] } :: ds, _, _, _, _, _, _, _, by omega, by rw [show ((k + 1 : Nat) : Int) = (k : Int) + 1 by omega], ⟨D, rfl, by omega, hK, fun d' hd D' he => ?_, hmk0.low hkl (Nat.le_refl _)⟩, ⟨v2, hv2, hr2⟩, hbl⟩, ?_⟩
      · have := hmk0.lt d' hd D' he
        omega
      · first | (simp [intOf]; done) | (simp [intOf]; omega)
    case stop =>
      rintro D c pre W _ _ h _
      exact h.elim
  · obtain rfl : k = 2 := by omega
    have hacl : (accOf (metI (t.heads 1 0)) 2).length ≤ 2000 := by rw [accOf_length]; omega
    have hmm : ∀ z, z ∈ accOf (metI (t.heads 1 0)) 2 ↔ z ∈ metI (t.heads 1 0) := fun z => mem_accOf _ 2 z (by omega)
    generalize accOf (metI (t.heads 1 0)) 2 = acc at *
    have q0 := hbx.cell
    by_cases hap : 0 < acc.length
    rotate_left
    · obtain rfl : acc = [] := by cases acc with | nil => rfl | cons => simp at hap
      obtain ⟨a, cap, rfl⟩ : ∃ a cap, v = .slice a 0 cap := by
        rcases hrow.2 with ⟨h, _⟩ | ⟨g, cap, cur, h, _⟩
        · exact ⟨_, _, h⟩
        · exact ⟨_, _, h⟩
      gi_wp2_with (first
        | (gi_at_call 59; refine (callsIn_wide.2 (Try.slices_Sort_int_none a cap wr)).mono ?_; rintro e w2 ⟨rfl, hw2⟩; subst hw2)
        | (gi_at_call 60; refine (callsIn_wide.2 (Try.slices_Compact_int_empty a cap _)).mono ?_; rintro e w3 ⟨rfl, hw3⟩; subst hw3))
      refine leaves_marks (N := N) (fun W => Below N w W) (fun W D hs hD hK => hs.trans (belowK_b (w := w) (by omega) W D _ _ (by omega) hK rfl rfl)) (fun W hs => ?_) ds _ hmk hbl
      exact ⟨_, results_tmp rfl _ _ _, a, cap, [], rfl, fun j z hz => by simp at hz, by simp, .nil, hmm, hs⟩
    · obtain ⟨g, cap, rfl, hg, hgl⟩ := hrow.form hap
      have hcell := World.ownsRow.cellAt hrow
      have hH : Sort.Holds (Value.int .i64) wr g 0 acc.toArray := fun j hj => by
        have hj' : j < acc.length := by simpa using hj
        refine ⟨?_, row_frozen hrow _⟩
        rw [Nat.zero_add, hcell j (by omega), getElem!_pos acc.toArray j hj, List.getElem_toArray, ints, List.getElem?_map, List.getElem?_eq_getElem hj']
        rfl
      have hNg : N ≠ g := fun e => (hbx.not_row (by decide) hrow) (by rw [e]; rfl)
      have hcap : acc.length ≤ cap := by
        rcases hrow.2 with ⟨h, _⟩ | ⟨g', c', cur, e1, _, _, e4, _⟩
        · cases h
        · cases e1; exact e4
      have hlow : ∀ w2 : World, (∀ k, k ≠ g → k < wr.heap.size → w2.heap[k]? = wr.heap[k]?) → KeepLow wr.heap.size wr w2 := fun w2 h i o hi h0 hc => (h i (fun e => by
        subst e
        obtain ⟨o', ho', hc'⟩ := cells_of_cell (hH 0 (by simpa using hap)).1
        rw [h0] at ho'
        cases ho'
        rw [hc] at hc'
        cases hc') hi).trans h0
      have hmem := bases_spec acc
      gi_wp2_with (first
        | (gi_at_call 59; refine (callsIn_wide.2 (Try.slices_Sort_int g 0 cap acc wr hH hgl (by omega))).mono ?_; rintro e w2 ⟨rfl, n2, os2, hw2⟩; obtain ⟨hH2, hbl2, hk2⟩ := sort_after hH hgl hg hbl hw2; have q2 := (World.cell?_of_block (w := wr) (a := ⟨N, 0, none⟩) (hk2 N hNg hbx.lt)).trans q0; have hm2 := hmk.low (hlow w2 hk2) (Nat.le_refl _); clear hw2; have hC2 := Try.slices_Compact_int g 0 cap (sortI acc) w2 hH2 (by rw [sortI_length]; omega) (by rw [sortI_length]; omega); rw [sortI_length] at hC2)
        | (gi_at_call 60; refine (callsIn_wide.2 hC2).mono ?_; clear hC2; rintro e w3 ⟨rfl, n3, hw3⟩; obtain ⟨hc3, hbl3, hk3⟩ := compact_after hH2 hg hbl2 hw3; have hm3 := hm2.low (n := w2.heap.size) (W' := w3) (fun i o _ h0 hc => (hk3 i (fun e => by
            subst e
            obtain ⟨o', ho', hc'⟩ := cells_of_cell (hH2 0 (by simpa [sortI_length] using hap)).1
            rw [h0] at ho'
            cases ho'
            rw [hc] at hc'
            cases hc')).trans h0) (Nat.le_refl _); clear hw3))
      refine leaves_marks (N := N) (fun W => (∀ j z, (Lib.compact (sortI acc))[j]? = some z → W.cell? ⟨g, j, none⟩ = some (.int .i64 z)) ∧ Below N w W) (fun W D hs hD hK => ⟨fun j z hz => cell_kept (hs.1 j z hz) (grownBy_putObj' W D _) (fun r e => by cases e; exact ⟨_, hK, rfl⟩), hs.2.trans (belowK_b (w := w) (by omega) W D _ _ (by omega) hK rfl rfl)⟩) (fun W hs => ?_) ds w3 hm3 ⟨hc3, hbl3⟩
      refine ⟨_, results_tmp rfl _ _ _, some ⟨g, 0, none⟩, cap, _, rfl, fun j z hz => ⟨g, rfl, hs.1 j z hz⟩, ?_, hmem.1, fun z => (hmem.2 z).trans (hmm z), hs.2⟩
      have := Lib.compact_length_le (sortI acc)
      rw [sortI_length] at this
      omega

end Go.Proofs.Ytheokboggjnenaa
