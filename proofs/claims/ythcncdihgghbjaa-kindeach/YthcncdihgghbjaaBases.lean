/-
  The contract of kind.Bases, of one type told twice.
-/
import Derived.Test.YthcncdihgghbjaaEach
import Derived.Test.YthcncdihgghbjaaSizes
import Derived.Maps.AppendAt
namespace Go.Proofs.Ythcncdihgghbjaa
open Go Go.RowKit Go.Shelf

attribute [local go_sem] Oper.semAt_some

/-- The marks of loops over functions that have ended, none of them met yet. -/
def Marks (N : Nat) : List Deferred → World → Prop
  | [], _ => True
  | d :: ds, W => ∃ D, d = { target := .collected D, args := #[] } ∧ N ≤ D ∧ W.heap[D]? = some (.deferred (some [])) ∧ (∀ d' ∈ ds, ∀ D', d'.target = .collected D' → D' ≠ D) ∧ Marks N ds W
/-- What is no cells and lay below n lies as it lay. -/
def KeepLow (n : Nat) (W W' : World) : Prop := ∀ k o, k < n → W.heap[k]? = some o → o.isCells = false → W'.heap[k]? = some o
theorem Marks.low {N n : Nat} {W W' : World} (hk : KeepLow n W W') (hn : W.heap.size ≤ n) : ∀ {ds : List Deferred}, Marks N ds W → Marks N ds W'
  | [], _ => trivial
  | d :: ds, ⟨D, h1, h2, h3, h4, h5⟩ => ⟨D, h1, h2, hk D _ (by have := (Array.getElem?_eq_some_iff.1 h3).1; omega) h3 rfl, h4, Marks.low hk hn h5⟩
theorem Marks.lt {N : Nat} {W : World} : ∀ {ds : List Deferred}, Marks N ds W → ∀ d' ∈ ds, ∀ D', d'.target = .collected D' → D' < W.heap.size
  | [], _, d', h, _, _ => by cases h
  | d :: ds, ⟨D, h1, h2, h3, h4, h5⟩, d', h, D', e => by
    rcases List.mem_cons.1 h with rfl | h
    · rw [h1] at e
      cases e
      exact (Array.getElem?_eq_some_iff.1 h3).1
    · exact Marks.lt h5 d' h D' e
theorem Marks.put {N E : Nat} {W : World} {o : Obj} : ∀ {ds : List Deferred}, Marks N ds W → (∀ d' ∈ ds, ∀ D', d'.target = .collected D' → D' ≠ E) → Marks N ds (W.putObj E o)
  | [], _, _ => trivial
  | d :: ds, ⟨D, h1, h2, h3, h4, h5⟩, h => ⟨D, h1, h2, (World.putObj_heap_other (h d (by simp) D (by rw [h1]))).trans h3, h4, Marks.put h5 (fun d' hd => h d' (by simp [hd]))⟩
/-- A function's way out, past its marks. -/
theorem leaves_marks {F : Fence} {n N : Nat} {P : Program} {fn : Func} {tmps : Array Value} {R : Ending → World → Prop} (S : World → Prop)
    (hS : ∀ W D, S W → N ≤ D → W.heap[D]? = some (.deferred (some [])) → S (W.putObj D (.deferred none)))
    (hR : ∀ W, S W → ∃ v, (results fn tmps).run P W = .ok v W ∧ R (.returned v) W) : ∀ (ds : List Deferred) (W : World), Marks N ds W → S W → LeavesInM F n P fn tmps R ds .returning W
  | [], W, _, hs => hR W hs
  | d :: ds, W, ⟨D, h1, h2, h3, h4, h5⟩, hs => by
    subst h1
    exact ⟨by simp, .inl ⟨_, _, rfl, run_takeDeferred h3, leaves_marks S hS hR ds _ (Marks.put h5 h4) (hS W D hs h2 h3)⟩⟩

theorem blk_not_row {W : World} {j : Nat} {t e : TypeId} {vs : Array Value} {n0 size k : Nat} {v : Value} {xs : List Value} (h : Blk W j t vs) (hr : W.ownsRow n0 e size v k xs) (hte : t ≠ e) : some j ≠ v.ownBlock := by
  intro he
  rcases hr.2 with ⟨rfl, _⟩ | ⟨g, cap, cur, rfl, _, e3, _⟩
  · cases he
  · obtain rfl : j = g := by simpa [Value.ownBlock] using he
    rw [show W.heap[j]? = _ from h] at e3
    simp at e3
    exact hte e3.2

def bsOf (l : List (Nat × Ty)) : List Int := l.map (·.2.base)
theorem bsOf_append (a b : List (Nat × Ty)) : bsOf (a ++ b) = bsOf a ++ bsOf b := List.map_append
def accOf (l : List Int) : Nat → List Int
  | 0 => []
  | k + 1 => accOf l k ++ l
theorem accOf_length (l : List Int) (k : Nat) : (accOf l k).length = k * l.length := by
  induction k with
  | zero => simp [accOf]
  | succ k ih => simp [accOf, ih, Nat.add_mul]
theorem ints_snoc (a : List Int) (x : Int) : ints a ++ [.int .i64 x] = ints (a ++ [x]) := by rw [ints_append]; rfl

/-- Of a rising row what is kept rises, and holds just what the row holds. -/
theorem comp_spec (d : Array Int) (hs : ∀ i j, i ≤ j → j < d.size → d[i]! ≤ d[j]!) : ∀ m, m ≤ d.size → (Lib.compactUpTo d m).Pairwise (· < ·) ∧ ∀ z, z ∈ Lib.compactUpTo d m ↔ ∃ j, j < m ∧ d[j]! = z := by
  intro m
  induction m with
  | zero => intro _; exact ⟨by simp [Lib.compactUpTo], fun z => by simp [Lib.compactUpTo]⟩
  | succ m ih =>
    intro hm
    obtain ⟨h1, h2⟩ := ih (by omega)
    rw [Lib.compactUpTo_succ]
    by_cases hk : Lib.keeps d m = true
    · rw [if_pos hk]
      refine ⟨List.pairwise_append.2 ⟨h1, by simp, fun a ha b hb => ?_⟩, fun z => ?_⟩
      · obtain ⟨j, hj, rfl⟩ := (h2 a).1 ha
        rw [List.mem_singleton.1 hb]
        have h3 : m = 0 ∨ d[m]! ≠ d[m - 1]! := of_decide_eq_true hk
        have h4 := hs j (m - 1) (by omega) (by omega)
        have h5 := hs (m - 1) m (by omega) (by omega)
        have h6 : d[m]! ≠ d[m - 1]! := by
          rcases h3 with h3 | h3
          · omega
          · exact h3
        omega
      · rw [List.mem_append, h2 z, List.mem_singleton]
        constructor
        · rintro (⟨j, hj, e⟩ | e)
          · exact ⟨j, by omega, e⟩
          · exact ⟨m, by omega, e.symm⟩
        · rintro ⟨j, hj, e⟩
          by_cases hjm : j = m
          · subst hjm; exact .inr e.symm
          · exact .inl ⟨j, by omega, e⟩
    · rw [if_neg hk, List.append_nil]
      refine ⟨h1, fun z => ?_⟩
      rw [h2 z]
      have h3 : m ≠ 0 ∧ d[m]! = d[m - 1]! := by
        have : ¬ (m = 0 ∨ d[m]! ≠ d[m - 1]!) := fun h => hk (decide_eq_true h)
        constructor
        · exact fun h => this (.inl h)
        · exact Classical.byContradiction fun h => this (.inr h)
      constructor
      · rintro ⟨j, hj, e⟩
        exact ⟨j, by omega, e⟩
      · rintro ⟨j, hj, e⟩
        by_cases hjm : j = m
        · subst hjm; exact ⟨j - 1, by omega, by rw [← h3.2]; exact e⟩
        · exact ⟨j, by omega, e⟩
def sortI (zs : List Int) : List Int := zs.mergeSort fun x y => decide (x ≤ y)
theorem bases_spec (zs : List Int) : (Lib.compact (sortI zs)).Pairwise (· < ·) ∧ ∀ z, z ∈ Lib.compact (sortI zs) ↔ z ∈ zs := by
  have hp : (sortI zs).Pairwise fun x y => decide (x ≤ y) = true := List.pairwise_mergeSort (fun a b c h1 h2 => by simp at *; omega) (fun a b => by simp; omega) zs
  have hs : ∀ i j, i ≤ j → j < (sortI zs).toArray.size → (sortI zs).toArray[i]! ≤ (sortI zs).toArray[j]! := by
    intro i j hij hj
    have hj' : j < (sortI zs).length := by simpa using hj
    rw [getElem!_pos (sortI zs).toArray i (Nat.lt_of_le_of_lt hij hj), getElem!_pos (sortI zs).toArray j hj]
    rcases Nat.lt_or_ge i j with h | h
    · have := List.pairwise_iff_getElem.1 hp i j (by omega) hj' h
      simpa using this
    · obtain rfl : i = j := by omega
      exact Int.le_refl _
  obtain ⟨h1, h2⟩ := comp_spec _ hs (sortI zs).length (by simp)
  refine ⟨h1, fun z => ?_⟩
  unfold Lib.compact
  rw [h2 z]
  constructor
  · rintro ⟨j, hj, e⟩
    rw [getElem!_pos (sortI zs).toArray j (by rw [List.size_toArray]; exact hj)] at e
    have : z ∈ sortI zs := by rw [← e]; simp
    exact List.mem_mergeSort.1 this
  · intro hz
    obtain ⟨j, hj, e⟩ := List.getElem_of_mem (List.mem_mergeSort.2 hz : z ∈ sortI zs)
    exact ⟨j, hj, by rw [getElem!_pos (sortI zs).toArray j (by rw [List.size_toArray]; exact hj), List.getElem_toArray]; exact e⟩
theorem mem_accOf (l : List Int) (k : Nat) (z : Int) (hk : 0 < k) : z ∈ accOf l k ↔ z ∈ l := by
  induction k with
  | zero => omega
  | succ k ih =>
    rw [accOf, List.mem_append]
    by_cases h0 : k = 0
    · subst h0; simp [accOf]
    · rw [ih (by omega)]; simp
theorem putRow_other (w : World) (g k q : Nat) (d : Array Int) (h : k ≠ g) : (Sort.putRow (Value.int .i64) (Sort.ahead w q) g 0 d).heap[k]? = w.heap[k]? := by
  simp [Sort.putRow, Sort.mapBlock, Sort.ahead, Array.getElem?_modify, h.symm]

theorem sortI_length (zs : List Int) : (sortI zs).length = zs.length := List.length_mergeSort zs
theorem sort_after {w wr w2 : World} {g N n2 : Nat} {acc : List Int} {os2 : Array Obj} (hH : Sort.Holds (Value.int .i64) wr g 0 acc.toArray) (hgl : g < wr.heap.size) (hg : N ≤ g) (hbl : Below N w wr)
    (hw2 : w2 = Sort.grow (Sort.putRow (Value.int .i64) (Sort.ahead wr n2) g 0 (sortI acc).toArray) os2) : Sort.Holds (Value.int .i64) w2 g 0 (sortI acc).toArray ∧ Below N w w2 ∧ ∀ k, k ≠ g → k < wr.heap.size → w2.heap[k]? = wr.heap[k]? := by
  have hs : (Sort.putRow (Value.int .i64) (Sort.ahead wr n2) g 0 (sortI acc).toArray).heap.size = wr.heap.size := by simp [Sort.putRow, Sort.mapBlock, Sort.ahead]
  have hk : ∀ k, k ≠ g → k < wr.heap.size → w2.heap[k]? = wr.heap[k]? := fun k h hl => by
    rw [hw2, Sort.heap_grow_old _ _ (by rw [hs]; exact hl)]
    exact putRow_other wr g k n2 _ h
  refine ⟨?_, ⟨?_, ?_, ?_, ?_, fun k hkN => ?_⟩, hk⟩
  · rw [hw2]
    exact Sort.holds_grow _ _ _ _ _ _ (by rw [hs]; exact hgl) (Sort.holds_putRow _ _ _ _ _ _ (Sort.holds_ahead _ _ _ _ _ _ hH) (by simp [sortI_length]))
  · rw [hw2]; exact hbl.os
  · rw [hw2]; exact hbl.tape
  · rw [hw2]; exact hbl.output
  · have := hbl.size
    rw [hw2]
    simp [Sort.grow, hs]
    omega
  · rcases Nat.lt_or_ge k wr.heap.size with h | h
    · exact (hk k (by omega) h).trans (hbl.block k hkN)
    · omega

theorem compact_after {w w2 w3 : World} {g N n3 : Nat} {acc : List Int} (hH : Sort.Holds (Value.int .i64) w2 g 0 (sortI acc).toArray) (hg : N ≤ g) (hbl : Below N w w2)
    (hw3 : w3 = Sort.putRow (Value.int .i64) (Sort.ahead w2 n3) g 0 (Lib.compact (sortI acc) ++ List.replicate (acc.length - (Lib.compact (sortI acc)).length) 0).toArray) :
    (∀ j z, (Lib.compact (sortI acc))[j]? = some z → w3.cell? ⟨g, j, none⟩ = some (.int .i64 z)) ∧ Below N w w3 ∧ ∀ k, k ≠ g → w3.heap[k]? = w2.heap[k]? := by
  have hcl := Lib.compact_length_le (sortI acc)
  rw [sortI_length] at hcl
  have hs : (Lib.compact (sortI acc) ++ List.replicate (acc.length - (Lib.compact (sortI acc)).length) 0).toArray.size = (sortI acc).toArray.size := by
    simp [sortI_length]
    omega
  have hk : ∀ k, k ≠ g → w3.heap[k]? = w2.heap[k]? := fun k h => by
    rw [hw3]
    exact putRow_other w2 g k n3 _ h
  refine ⟨fun j z hz => ?_, ⟨?_, ?_, ?_, ?_, fun k hkN => ?_⟩, hk⟩
  · have hj := (List.getElem?_eq_some_iff.1 hz).1
    have hj2 : j < (Lib.compact (sortI acc) ++ List.replicate (acc.length - (Lib.compact (sortI acc)).length) 0).toArray.size := by simp; omega
    have := Sort.cell?_putRow (Value.int .i64) (Sort.ahead w2 n3) g 0 (sortI acc).toArray _ (Sort.holds_ahead _ _ _ _ _ _ hH) hs j hj2
    rw [Nat.zero_add] at this
    rw [hw3, this, getElem!_pos _ j hj2, List.getElem_toArray, List.getElem_append_left hj, (List.getElem?_eq_some_iff.1 hz).2]
  · rw [hw3]; exact hbl.os
  · rw [hw3]; exact hbl.tape
  · rw [hw3]; exact hbl.output
  · have := hbl.size
    rw [hw3]
    simp [Sort.putRow, Sort.mapBlock, Sort.ahead]
    omega
  · exact (hk k (by omega)).trans (hbl.block k hkN)

/-- What the round of the loop over the types within keeps. -/
def IB (w : World) (N : Nat) (acc : List Int) (ks : List (Nat × Ty)) (W0 W : World) : Prop :=
  ((∃ v, Boxed W N 55 v ∧ W.ownsRow N 3 1 v (acc ++ bsOf ks).length (ints (acc ++ bsOf ks))) ∧ KeepLow W0.heap.size W0 W) ∧ Below N w W

def actB (N G : Nat) (u5 u10 u11 u12 u13 u14 u15 u23 : Value) (ds : List Deferred) : Act :=
  { tmps := #[.slice (some ⟨G, 0, none⟩) 2 2, undef, .slice none 0 0, .pointer (some ⟨N, 0, none⟩), undef, u5, undef, undef, .slice (some ⟨G, 0, none⟩) 2 2, .int .i64 2, u10, u11, u12, u13, u14, u15, undef, undef, undef, undef, undef, undef, undef, u23, undef, undef, undef, undef], defers := ds }

set_option maxRecDepth 100000 in
set_option maxHeartbeats 2000000 in
theorem Bases_calls (t : Ty) (G : Nat) (ok : Nat → Prop) (w : World) (hh : Holds w ok [t, t] (.slice (some ⟨G, 0, none⟩) 2 2)) (hsz : t.size ≤ 1000) :
    Calls Try.prog 34 #[.slice (some ⟨G, 0, none⟩) 2 2] w fun e w' => ∃ (g cap : Nat) (bs : List Int), e = .returned (.slice (some ⟨g, 0, none⟩) bs.length cap) ∧ (∀ j z, bs[j]? = some z → w'.cell? ⟨g, j, none⟩ = some (.int .i64 z)) ∧ bs.length ≤ 2000 ∧ bs.Pairwise (· < ·) ∧ (∀ z, z ∈ bs ↔ z ∈ bsOf (t.within 1)) ∧ Below w.heap.size w w' := by
  refine (callsIn_wide (n := 9)).1 ?_
  have h1 : 1 ≤ 9 := by omega
  have hf36 : Fence.wide.fn 36 := trivial
  have hf47 : Fence.wide.fn 47 := trivial
  have hf48 : Fence.wide.fn 48 := trivial
  have hdd : ∀ k : Nat, (Fence.wide.depth.isSome = true → 1 ≤ k) := fun k h => by cases h
  obtain ⟨N, hN⟩ : ∃ N, w.heap.size = N := ⟨_, rfl⟩
  rw [hN]
  obtain ⟨j0, hj, hy0, hy1, hy2⟩ := info_parts info3
  have hh0 : Holds w (fun b => b < N) [t, t] (.slice (some ⟨G, 0, none⟩) 2 2) := hh.mono fun b hb _ => by omega
  have HS : Hid _ := hh0.shape
  have hlen : (bsOf (t.within 1)).length = t.size := by rw [bsOf, List.length_map, t.within_length]
  refine callsIn_of_wp_marks Try.func34 rfl trivial ?_ rfl
  simp only [Try.ntmps34, List.size_toArray, List.length_cons, List.length_nil, Nat.reduceAdd, Nat.reduceSub, Array.replicate_succ, Array.replicate_zero, List.push_toArray, List.append_toArray, List.nil_append, List.cons_append]
  gi_wp2
  generalize hw1 : w.alloc (.cells #[.slice none 0 0] 55) = w1
  have b1 : Boxed w1 N 55 (.slice none 0 0) := by rw [← hw1, ← hN]; exact Boxed.new _ _ _
  have bl1 : Below N w w1 := by rw [← hw1]; exact (Below.refl N w).alloc (by omega) _
  clear hw1
  refine wpIn_loop (fun a wr => ∃ (k : Nat) (ds : List Deferred) (u5 u11 u12 u13 u14 u15 u23 : Value), k ≤ 2 ∧ a = actB N G u5 (.int .i64 k) u11 u12 u13 u14 u15 u23 ds ∧ Marks N ds wr ∧ (∃ v, Boxed wr N 55 v ∧ wr.ownsRow N 3 1 v (accOf (bsOf (t.within 1)) k).length (ints (accOf (bsOf (t.within 1)) k))) ∧ Below N w wr)
    (fun a _ => 2 - (intOf (a.tmps.getD 10 undef)).toNat) ⟨0, [], _, _, _, _, _, _, _, by omega, rfl, trivial, ⟨_, b1, World.ownsRow_nil _ _ _ _⟩, bl1⟩ ?_
  clear b1 bl1
  rintro a wr ⟨k, ds, u5, u11, u12, u13, u14, u15, u23, hk, rfl, hmk, ⟨v, hbx, hrow⟩, hbl⟩
  unfold actB
  by_cases hlt : k < 2
  · obtain ⟨ga, gc, e1, _, hat⟩ := HS.out
    cases e1
    have hu : [t, t][k]? = some t := by
      match k, hlt with
      | 0, _ => rfl
      | 1, _ => rfl
    obtain ⟨g, o, s, e1, hg, _, a0, a1, hs⟩ := hat k t hu
    cases e1
    have q0 := (cat hbl hg).trans a0
    have q1 := (cat hbl hg).trans a1
    obtain ⟨sa, sc, hsl, _⟩ := hs.shape
    generalize t.args.length = sn at hsl
    subst hsl
    have y1 : (0 : Int) ≤ (k : Int) := by omega
    have y2 : (k : Int) < 2 := by omega
    have z1 : decide ((k : Int) < 2) = true := by simp; omega
    have z2 : decide (k < 2) = true := by simp; omega
    have hw0 : 0 + k * 2 = k * 2 := by omega
    rw [hw0] at q0 q1
    clear a0 a1 hat hu
    have hwr : N ≤ wr.heap.size := by have := hbl.size; omega
    gi_wp2_with (gi_at_call 36; refine (within_in _ _ _ _).mono ?_; rintro e w' ⟨rfl, rfl⟩)
    rename_i K Q' hKs
    obtain ⟨M, hM⟩ : ∃ M, wr.heap.size = M := ⟨_, rfl⟩
    rw [hM]
    obtain ⟨W0, hW0⟩ : ∃ W0, (wr.alloc (.cells #[.slice sa sn sc, .int .i64 t.base] 29)).alloc (.cells #[.slice sa sn sc, .int .i64 t.base] 29) = W0 := ⟨_, rfl⟩
    have b1 : Blk W0 (M + 1) 29 #[.slice sa sn sc, .int .i64 t.base] := by rw [← hW0]; exact Blk.new' _ (M + 1) 29 _ (by simp [hM])
    have hsz0 : W0.heap.size = M + 2 := by rw [← hW0]; simp [hM]
    have hb : Below N w W0 := by rw [← hW0]; exact (hbl.alloc (by omega) _).alloc (by simp; omega) _
    have hbx0 : Boxed W0 N 55 v := by rw [← hW0]; exact (hbx.alloc _).alloc _
    have hrow0 : W0.ownsRow N 3 1 v (accOf (bsOf (t.within 1)) k).length (ints (accOf (bsOf (t.within 1)) k)) := by rw [← hW0]; exact (hrow.alloc _).alloc _
    have hmk0 : Marks N ds W0 := hmk.low (n := wr.heap.size) (fun i o hi ho _ => by rw [← hW0]; exact (Below.heap_alloc _ _ _ (by simp; omega)).trans ((Below.heap_alloc _ _ _ hi).trans ho)) (Nat.le_refl _)
    rw [hW0]
    have HN : Hid (w.heap.size = N) := hN
    have HM : Hid (accOf (bsOf (t.within 1)) k ++ bsOf (t.within 1) = accOf (bsOf (t.within 1)) (k + 1)) := rfl
    have hacl := accOf_length (bsOf (t.within 1)) k
    generalize accOf (bsOf (t.within 1)) k = acc at *
    have hal : acc.length ≤ 2000 := by rw [hacl, hlen]; have : k * t.size ≤ 1 * t.size := Nat.mul_le_mul_right _ (by omega); omega
    rw [hM] at hwr
    clear hW0 hN hbx hrow hmk q0 q1 hbl hM hacl
    refine wpIn_rangeFunc_ownH rfl h1 (gf := 50) (lb := #[.pointer (some ⟨M + 1, 0, none⟩)]) rfl trivial (enters_of Try.func50 (by kernel_rfl) rfl)
      (within_stops w N (9 - 1) (M + 1) t (.slice sa sn sc) W0 b1 hs (by omega) (by omega) hb) Kp.trans (Kp.put (by omega)) (Below.refl _ _) (fun _ => rfl)
      (fun pre W => IB w N acc (keys pre) W0 W)
      (fun _ _ _ => False)
      (OwnFrom.and (OwnFrom.and (fun s A C row hs hg hr => by
          obtain ⟨v, hv, hr2⟩ := hs
          have hne : ∀ i t vs, Blk A i t vs → some i ≠ row := fun i t vs hi he => by
            obtain ⟨_, o, ho, hc⟩ := hr i he.symm
            rw [show A.heap[i]? = _ from hi] at ho
            cases ho
            cases hc
          refine ⟨v, hv.kept hg (hne N 55 _ hv), hr2.kept hg ?_⟩
          rcases hr2.2 with ⟨rfl, _⟩ | ⟨g, cap, cur, rfl, _, e3, _⟩
          · exact .inl rfl
          · exact .inr (fun e => hne g 3 cur e3 (by simpa [Value.ownBlock] using e))) (fun s A C row hs hg hr i o hi h0 hc => by
          have hA := hs i o hi h0 hc
          exact (hg.block i (Array.getElem?_eq_some_iff.1 hA).1 (fun e => by have := (hr i e.symm).1; omega)).trans hA)) (ownFrom_below (by rw [HN.out]; exact Nat.le_refl _) (by omega)))
      (fun _ _ _ _ _ hs _ _ => hs)
      ⟨⟨⟨v, hbx0, by simpa [keys, bsOf] using hrow0⟩, fun i o _ h _ => h⟩, hb⟩
      (fun x a' W => ∃ Bx, Blk W Bx 29 #[x.s, .int .i64 x.t.base] ∧ a' = { tmps := #[.slice (some ⟨G, 0, none⟩) 2 2, undef, .slice none 0 0, .pointer (some ⟨N, 0, none⟩), undef, .pointer (some ⟨M, 0, none⟩), undef, .pointer (some ⟨Bx, 0, none⟩), .slice (some ⟨G, 0, none⟩) 2 2, .int .i64 2, .int .i64 k, .bool true, .pointer (some ⟨G, k * 2, none⟩), .agg #[.slice sa sn sc, .int .i64 t.base], .agg #[.slice sa sn sc, .int .i64 t.base], .func (.func 50) #[] #[.pointer (some ⟨M + 1, 0, none⟩)], .int .i64 x.d, tv x.s x.t.base, undef, undef, undef, undef, undef, u23, undef, undef, undef, undef], defers := [] })
      (fun x a' _ X Y row hs hg hr => by obtain ⟨Bx, h2, h3⟩ := hs; exact ⟨Bx, h2.own hg (fun r e => (hr r e).2), h3⟩)
      ?assign ?body ?done ?stop
    case assign =>
      rintro l pre x W K2 ⟨⟨⟨v2, hv2, hr2⟩, hkl⟩, hbl⟩ hK
      obtain ⟨xa, xc, hxs, _⟩ := x.h.shape
      have hNW : N < W.heap.size := hv2.lt
      have hKx := hK _ (W.alloc (.cells #[x.s, .int .i64 x.t.base] 29)) ((KeepsOthers.alloc _ _).from _) (Kp.alloc (by omega) _) ⟨⟨⟨v2, hv2.alloc _, hr2.alloc _⟩, fun i o hi h0 hc => (Below.heap_alloc _ _ _ (Array.getElem?_eq_some_iff.1 (hkl i o hi h0 hc)).1).trans (hkl i o hi h0 hc)⟩, hbl.alloc (by omega) _⟩ ⟨W.heap.size, Blk.new W 29 _, rfl⟩
      clear hK
      simp only [encI]
      rw [hxs] at hKx ⊢
      gi_wp2
      simpa using hKx
    case body =>
      rintro l pre x a' W hl _ ⟨⟨⟨v2, hv2, hr2⟩, hkl⟩, hbl⟩ ⟨Bx, bX, rfl⟩ hlp
      have q1 := hv2.cell
      have qX := bX.cell 1
      have hNW : N < W.heap.size := hv2.lt
      have hk1 : Hid (acc ++ bsOf (keys (pre ++ [x])) = (acc ++ bsOf (keys pre)) ++ [x.t.base]) := by show _ = _; rw [keys_append, bsOf_append, ← List.append_assoc]; rfl
      obtain ⟨L, hL⟩ : ∃ L, acc ++ bsOf (keys pre) = L := ⟨_, rfl⟩
      rw [hL] at hr2 hk1
      have hLl : L.length ≤ 3000 := by rw [← hL, List.length_append, bsOf, List.length_map, keys_length]; omega
      clear hL
      gi_wp2_with (gi_at_builtin; refine wpListIn_append_own _ rfl _ _ 55 rfl N 3 j0 (.int .i64 0) 1 8 Try.underlying55 hj hy0 hy1 hy2 rfl (by decide) _ _ _ rfl (hr2.alloc _) ⟨W.heap.size, 0, none⟩ 1 1 [.int .i64 x.t.base] rfl rfl (cell_one_new _ _ _) (by simp [Value.oneCell']) (by unfold maxLen; omega) (by omega) (by simp; omega) ?_; intro v' w1 hown' hgrow _; obtain ⟨g', cap', rfl⟩ := ownsRow_succ hown'; obtain ⟨hv1, hv3, hr3, hk3, hb3⟩ := hv2.appended (by decide) hr2 (by omega) (Nat.le_refl _) hown' hgrow; have hc1 := hv1.cell; have hf1 := hv1.frozen)
      refine ⟨hk3.from _, ⟨hb3, fun j tt vs ht hbk => ?_⟩, ⟨⟨_, hv3, ?_⟩, fun i o hi h0 hc => hk3.same i o (hkl i o hi h0 hc) hc⟩, hbl.trans hb3⟩
      · refine ((hbk.alloc _).kept hgrow (blk_not_row hbk hr2 (by rcases ht with rfl | rfl <;> decide))).other (fun e => ?_) 0 _
        subst e
        have := (show W.heap[j]? = _ from hbk).symm.trans hv2
        simp at this
        rcases ht with rfl | rfl
        · exact absurd this.2 (by decide)
        · exact absurd this.2 (by decide)
      · rw [hk1.out, ← ints_snoc, List.length_append]
        exact hr3
    case done =>
      rintro D ys W hD hys ⟨⟨⟨v2, hv2, hr2⟩, hkl⟩, hbl⟩ hK
      rw [hys, HM.out] at hr2
      gi_wp2
      refine ⟨⟨k + 1, { target := .collected D, args := #[] } :: ds, _, _, _, _, _, _, _, by omega, by rw [show ((k + 1 : Nat) : Int) = (k : Int) + 1 by omega], ⟨D, rfl, by omega, hK, fun d' hd D' he => ?_, hmk0.low hkl (Nat.le_refl _)⟩, ⟨v2, hv2, hr2⟩, hbl⟩, ?_⟩
      · have := hmk0.lt d' hd D' he
        omega
      · simp [intOf]
        omega
    case stop =>
      rintro D c pre W _ _ h _
      exact h.elim
  · obtain rfl : k = 2 := by omega
    obtain ⟨g, cap, rfl, hg, hgl⟩ := hrow.form (by rw [accOf_length, hlen]; have := t.size_eq; omega)
    have q0 := hbx.cell
    have hcell := World.ownsRow.cellAt hrow
    have hap : 0 < (accOf (bsOf (t.within 1)) 2).length := by rw [accOf_length, hlen]; have := t.size_eq; omega
    have hmm : ∀ z, z ∈ accOf (bsOf (t.within 1)) 2 ↔ z ∈ bsOf (t.within 1) := fun z => mem_accOf _ 2 z (by omega)
    have hacl : (accOf (bsOf (t.within 1)) 2).length ≤ 2000 := by rw [accOf_length, hlen]; omega
    generalize accOf (bsOf (t.within 1)) 2 = acc at *
    have hH : Sort.Holds (Value.int .i64) wr g 0 acc.toArray := fun j hj => by
      have hj' : j < acc.length := by simpa using hj
      refine ⟨?_, row_frozen hrow _⟩
      rw [Nat.zero_add, hcell j (by omega), getElem!_pos acc.toArray j hj, List.getElem_toArray, ints, List.getElem?_map, List.getElem?_eq_getElem hj']
      rfl
    have hNg : N ≠ g := fun e => (hbx.not_row (by decide) hrow) (by rw [e]; rfl)
    have hcap : acc.length ≤ cap := by
      rcases hrow.2 with ⟨h, _⟩ | ⟨g', c', cur, e1, _, _, e4, _⟩
      · cases h
      · cases e1; exact e4
    have hlow : ∀ w2 : World, (∀ k, k ≠ g → k < wr.heap.size → w2.heap[k]? = wr.heap[k]?) → KeepLow wr.heap.size wr w2 := fun w2 h i o hi h0 hc => (h i (fun e => by
      subst e
      obtain ⟨o', ho', hc'⟩ := cells_of_cell (hH 0 (by simpa using hap)).1
      rw [h0] at ho'
      cases ho'
      rw [hc] at hc'
      cases hc') hi).trans h0
    have hmem := bases_spec acc
    gi_wp2_with (first
      | (gi_at_call 47; refine (callsIn_wide.2 (Try.slices_Sort_int g 0 cap acc wr hH hgl (by omega))).mono ?_; rintro e w2 ⟨rfl, n2, os2, hw2⟩; obtain ⟨hH2, hbl2, hk2⟩ := sort_after hH hgl hg hbl hw2; have q2 := (World.cell?_of_block (w := wr) (a := ⟨N, 0, none⟩) (hk2 N hNg hbx.lt)).trans q0; have hm2 := hmk.low (hlow w2 hk2) (Nat.le_refl _); clear hw2; have hC2 := Try.slices_Compact_int g 0 cap (sortI acc) w2 hH2 (by rw [sortI_length]; omega) (by rw [sortI_length]; omega); rw [sortI_length] at hC2)
      | (gi_at_call 48; refine (callsIn_wide.2 hC2).mono ?_; clear hC2; rintro e w3 ⟨rfl, n3, hw3⟩; obtain ⟨hc3, hbl3, hk3⟩ := compact_after hH2 hg hbl2 hw3; have hm3 := hm2.low (n := w2.heap.size) (W' := w3) (fun i o _ h0 hc => (hk3 i (fun e => by
          subst e
          obtain ⟨o', ho', hc'⟩ := cells_of_cell (hH2 0 (by simpa [sortI_length] using hap)).1
          rw [h0] at ho'
          cases ho'
          rw [hc] at hc'
          cases hc')).trans h0) (Nat.le_refl _); clear hw3))
    refine leaves_marks (N := N) (fun W => (∀ j z, (Lib.compact (sortI acc))[j]? = some z → W.cell? ⟨g, j, none⟩ = some (.int .i64 z)) ∧ Below N w W) (fun W D hs hD hK => ⟨fun j z hz => cell_kept (hs.1 j z hz) (grownBy_putObj' W D _) (fun r e => by cases e; exact ⟨_, hK, rfl⟩), hs.2.trans (belowK_b (w := w) (by omega) W D _ _ (by omega) hK rfl rfl)⟩) (fun W hs => ?_) ds w3 hm3 ⟨hc3, hbl3⟩
    refine ⟨_, results_tmp rfl _ _ _, g, cap, _, rfl, hs.1, ?_, hmem.1, fun z => (hmem.2 z).trans (hmm z), hs.2⟩
    have := Lib.compact_length_le (sortI acc)
    rw [sortI_length] at this
    omega

end Go.Proofs.Ythcncdihgghbjaa
