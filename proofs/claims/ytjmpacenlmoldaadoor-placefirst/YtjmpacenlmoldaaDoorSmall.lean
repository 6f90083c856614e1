/-
  The contracts of the small functions: few, to, of, strings.Clone, place.Line, place.At, the document's Compare, cmp.Or and place.Compare.
-/
import Derived.Test.YtjmpacenlmoldaaDoorOf
import Derived.BigRegion
import Derived.Deep.RegionWith
import Derived.Deep.QuietTactic
import Derived.BigQuiet
import Derived.StillTailTactics
namespace Go.Proofs.YtjmpacenlmoldaaDoor
open Go Go.RowKit Go.Shelf Plain

theorem bcell {W w1 : World} (hb : Below W.heap.size W w1) : (∀ b o, b < W.heap.size → w1.cell? ⟨b, o, none⟩ = W.cell? ⟨b, o, none⟩) ∧ (∀ b o, b < W.heap.size → w1.frozen? ⟨b, o, none⟩ = W.frozen? ⟨b, o, none⟩) :=
  ⟨fun b o h => hb.cell (p := ⟨b, o, none⟩) h, fun b o h => hb.frozen (p := ⟨b, o, none⟩) h⟩

theorem ret2_int {k : IntKind} {a b : Int} {v : Value} (h : a = b) : Ending.returned (.tuple #[.int k a, v]) = .returned (.tuple #[.int k b, v]) := by rw [h]
theorem ret_int {k : IntKind} {a b : Int} (h : a = b) : Ending.returned (.int k a) = .returned (.int k b) := by rw [h]

/-- The first thousand bytes. -/
def fewB (s : ByteArray) : ByteArray := s.extract 0 (min (s.size : Int) 1000).toNat
theorem fewB_size (s : ByteArray) : (fewB s).size ≤ 1000 := by
  unfold fewB
  rw [ByteArray.size_extract]
  omega

set_option maxHeartbeats 400000 in
theorem few_calls (s : ByteArray) (hs : s.size ≤ 4611686018427387904) (w : World) :
    Calls Tryd.prog 8 #[.string s] w fun e w' => e = .returned (.string (fewB s)) ∧ w' = w := by
  go_enter Tryd.func8, Tryd.ntmps8
  go_wp2
  go_ret
  exact ⟨rfl, rfl⟩

set_option maxHeartbeats 400000 in
theorem to_calls (a b : Int) (w : World) :
    Calls Tryd.prog 11 #[.agg #[.int .i64 a, .int .i64 b]] w fun e w' => e = .returned (.agg #[.int .i64 a, .int .i64 b]) ∧ Below w.heap.size w w' := by
  go_enter Tryd.func11, Tryd.ntmps11
  go_wp2
  exact bodyPost_ret (v := .agg #[.int .i64 a, .int .i64 b]) (by simp [results, Tryd.results11, go_sem]) rfl ⟨rfl, ((Below.refl _ w).alloc (Nat.le_refl _) _).alloc (by simp) _⟩

set_option maxHeartbeats 400000 in
theorem of_calls (a b : Int) (w : World) :
    Calls Tryd.prog 14 #[.agg #[.int .i64 a, .int .i64 b]] w fun e w' => e = .returned (.agg #[.int .i64 a, .int .i64 b]) ∧ Below w.heap.size w w' := by
  go_enter Tryd.func14, Tryd.ntmps14
  go_wp2
  exact bodyPost_ret (v := .agg #[.int .i64 a, .int .i64 b]) (by simp [results, Tryd.results14, go_sem]) rfl ⟨rfl, ((Below.refl _ w).alloc (Nat.le_refl _) _).alloc (by simp) _⟩

set_option maxHeartbeats 400000 in
theorem clone_calls (s : ByteArray) (hs : s.size ≤ 281474976710656) (w : World) :
    Calls Tryd.prog 28 #[.string s] w fun e w' => e = .returned (.string s) ∧ Below w.heap.size w w' := by
  go_enter Tryd.func28, Tryd.ntmps28
  go_wp2_with (go_at_call 34; refine (Tryd.stringslite_Clone _ _ hs).mono ?_; rintro e w' ⟨rfl, hb⟩)
  go_ret
  exact ⟨rfl, hb⟩

theorem find_none_calls (s : ByteArray) (hs : s.size ≤ 4611686018427387904) (k : Int) (h : findL s k = none) (w : World) :
    Calls Tryd.prog 27 #[.string s, .int .i64 k] w fun e w' => e = .returned (.tuple #[.int .i64 0, .string ⟨#[]⟩, .bool false]) ∧ Below w.heap.size w w' := by
  have := find_calls s hs k w; rw [h] at this; exact this
theorem find_some_calls (s : ByteArray) (hs : s.size ≤ 4611686018427387904) (k : Int) (st : Int) (ln : ByteArray) (h : findL s k = some (st, ln)) (w : World) :
    Calls Tryd.prog 27 #[.string s, .int .i64 k] w fun e w' => e = .returned (.tuple #[.int .i64 st, .string ln, .bool true]) ∧ Below w.heap.size w w' := by
  have := find_calls s hs k w; rw [h] at this; exact this

theorem findL_some (s : ByteArray) (k : Int) (st : Int) (ln : ByteArray) (h : findL s k = some (st, ln)) :
    1 ≤ k ∧ ∃ (a : Nat) (l : List UInt8), st = (a : Int) ∧ ln = ⟨l.toArray⟩ ∧ (lns 0 [] s.data.toList)[k.toNat - 1]? = some (a, l) ∧ a + l.length ≤ s.size := by
  unfold findL at h
  by_cases h1 : 1 ≤ k
  · rw [if_pos h1] at h
    unfold allLines at h
    rw [List.getElem?_map, Option.map_eq_some_iff] at h
    obtain ⟨⟨a, l⟩, h2, h3⟩ := h
    simp only [conv, Prod.mk.injEq] at h3
    refine ⟨h1, a, l, h3.1.symm, h3.2.symm, h2, ?_⟩
    have := (lns_bound s.data.toList 0 []).2 (a, l) (List.mem_of_getElem? h2)
    simpa using this
  · rw [if_neg h1] at h; cases h

theorem findL_of (s : ByteArray) (k a : Nat) (l : List UInt8) (hk : 1 ≤ k) (h : (lns 0 [] s.data.toList)[k - 1]? = some (a, l)) : findL s k = some ((a : Int), ⟨l.toArray⟩) := by
  unfold findL
  rw [if_pos (by omega)]
  unfold allLines
  rw [List.getElem?_map, show (k : Int).toNat - 1 = k - 1 by omega, h]
  rfl

set_option maxHeartbeats 400000 in
theorem Line_none (s : ByteArray) (hs : s.size ≤ 281474976710656) (k : Int) (h : findL s k = none) (w : World) :
    Calls Tryd.prog 17 #[.string s, .int .i64 k] w fun e w' => e = .returned (.tuple #[.string ⟨#[]⟩, .int .i64 10]) ∧ Below w.heap.size w w' := by
  have H : Hid (findL s k = none) := h
  clear h
  go_enter Tryd.func17, Tryd.ntmps17
  go_wp2_with (go_at_call 27; refine (find_none_calls s (by omega) k H.out _).mono ?_; rintro e w' ⟨rfl, hb⟩)
  go_ret2
  exact ⟨rfl, hb⟩

set_option maxHeartbeats 400000 in
theorem Line_some (s : ByteArray) (hs : s.size ≤ 281474976710656) (k : Int) (st : Int) (ln : ByteArray) (h : findL s k = some (st, ln)) (w : World) :
    Calls Tryd.prog 17 #[.string s, .int .i64 k] w fun e w' => e = .returned (.tuple #[.string ln, .int .i64 0]) ∧ Below w.heap.size w w' := by
  have H : Hid (findL s k = some (st, ln)) := h
  have hl : ln.size ≤ 281474976710656 := by
    obtain ⟨_, a, l, _, rfl, _, h2⟩ := findL_some s k st ln h
    have : (⟨l.toArray⟩ : ByteArray).size = l.length := rfl
    omega
  clear h
  go_enter Tryd.func17, Tryd.ntmps17
  go_wp2_with (first | (go_at_call 27; refine (find_some_calls s (by omega) k st ln H.out _).mono ?_; rintro e w' ⟨rfl, hb⟩) | (go_at_call 28; refine (clone_calls _ hl _).mono ?_; rintro e w2 ⟨rfl, hb2⟩))
  go_ret2
  exact ⟨rfl, hb.trans (hb2.mono hb.size)⟩

/-- The place that k bytes stand ahead of. -/
def markAt (s : ByteArray) (k : Nat) : Nat × Nat := Plain.mark (s.data.toList.take k)

theorem markAt_line (s : ByteArray) (i : Nat) (hi : i ≤ s.size) : ∃ (a : Nat) (l : List UInt8), findL s ((markAt s i).1 : Int) = some ((a : Int), ⟨l.toArray⟩) ∧ 1 ≤ (markAt s i).2 ∧ (markAt s i).2 ≤ l.length + 1 ∧ i + 1 = a + (markAt s i).2 ∧ a + l.length ≤ s.size := by
  obtain ⟨h1, a, l, h2, h3, h4, h5⟩ := mark_line s.data.toList 0 [] 1 i (markAt s i) (by simpa using hi) rfl
  refine ⟨a, l, findL_of s _ a l h1 h2, h3, h4, by simp at h5; omega, ?_⟩
  have := (lns_bound s.data.toList 0 []).2 (a, l) (List.mem_of_getElem? h2)
  simpa using this

theorem line_markAt (s : ByteArray) (k : Int) (st : Int) (ln : ByteArray) (c : Int) (h : findL s k = some (st, ln)) (h1 : 1 ≤ c) (h2 : c ≤ (ln.size : Int) + 1) : ∃ i, i ≤ s.size ∧ ((markAt s i).1 : Int) = k ∧ ((markAt s i).2 : Int) = c := by
  obtain ⟨hk, a, l, _, rfl, h3, h4⟩ := findL_some s k st ln h
  have hsz : (⟨l.toArray⟩ : ByteArray).size = l.length := rfl
  obtain ⟨i, hi, hm, _⟩ := line_mark s.data.toList 0 [] 1 (k.toNat - 1) c.toNat a l h3 (by omega) (by omega) (by intro _; simp; omega)
  refine ⟨i, by simpa using hi, ?_⟩
  have : markAt s i = (1 + (k.toNat - 1), c.toNat) := hm
  rw [this]
  simp only
  omega

set_option maxHeartbeats 800000 in
theorem At_some (s : ByteArray) (hs : s.size ≤ 281474976710656) (i : Nat) (hi : i ≤ s.size) (w : World) :
    Calls Tryd.prog 10 #[.string s, .agg #[.int .i64 ((markAt s i).1 : Int), .int .i64 ((markAt s i).2 : Int)]] w fun e w' => e = .returned (.tuple #[.int .i64 (i : Int), .int .i64 0]) ∧ Below w.heap.size w w' := by
  obtain ⟨a, l, h1, h2, h3, h4, h5⟩ := markAt_line s i hi
  obtain ⟨ln, hln⟩ : ∃ ln : ByteArray, ln = ⟨l.toArray⟩ := ⟨_, rfl⟩
  have hsz : ln.size = l.length := by rw [hln]; rfl
  rw [← hln] at h1
  have H : Hid (findL s ((markAt s i).1 : Int) = some ((a : Int), ln)) := h1
  generalize markAt s i = m at *
  obtain ⟨L, C⟩ := m
  simp only at h2 h3 h4 H ⊢
  have c1 : (1 : Int) ≤ (C : Int) := by omega
  have c2 : (C : Int) ≤ (ln.size : Int) + 1 := by omega
  have c3 : (ln.size : Int) ≤ 281474976710656 := by omega
  have c4 : (a : Int) ≤ 281474976710656 := by omega
  have HE : Hid ((a : Int) + (C : Int) - 1 = (i : Int)) := by show _ = _; omega
  clear h1 h2 h3 h4 hln hsz
  go_enter Tryd.func10, Tryd.ntmps10
  go_wp2_with (go_at_call 27; refine (find_some_calls s (by omega) _ a ln H.out _).mono ?_; rintro e w1 ⟨rfl, hb⟩; obtain ⟨hc, hf⟩ := bcell hb)
  go_ret2
  exact ⟨ret2_int HE.out, ((Below.refl _ w).alloc (Nat.le_refl _) _).trans (hb.mono (by simp))⟩

set_option maxHeartbeats 800000 in
theorem At_none (s : ByteArray) (hs : s.size ≤ 281474976710656) (L C : Int) (h : ∀ i, i ≤ s.size → ¬ (((markAt s i).1 : Int) = L ∧ ((markAt s i).2 : Int) = C)) (w : World) :
    Calls Tryd.prog 10 #[.string s, .agg #[.int .i64 L, .int .i64 C]] w fun e w' => e = .returned (.tuple #[.int .i64 0, .int .i64 10]) ∧ Below w.heap.size w w' := by
  rcases hfl : findL s L with _ | ⟨st, ln⟩
  · have H : Hid (findL s L = none) := hfl
    clear hfl h
    go_enter Tryd.func10, Tryd.ntmps10
    go_wp2_with (go_at_call 27; refine (find_none_calls s (by omega) _ H.out _).mono ?_; rintro e w1 ⟨rfl, hb⟩; obtain ⟨hc, hf⟩ := bcell hb)
    go_ret2
    exact ⟨rfl, ((Below.refl _ w).alloc (Nat.le_refl _) _).trans (hb.mono (by simp))⟩
  · have hout : C < 1 ∨ (ln.size : Int) + 1 < C := by
      by_cases h1 : 1 ≤ C
      · by_cases h2 : C ≤ (ln.size : Int) + 1
        · obtain ⟨i, h3, h4⟩ := line_markAt s L st ln C hfl h1 h2
          exact absurd h4 (h i h3)
        · omega
      · omega
    have hl : (ln.size : Int) ≤ 281474976710656 := by
      obtain ⟨_, a, l, _, rfl, _, h2⟩ := findL_some s L st ln hfl
      have : (⟨l.toArray⟩ : ByteArray).size = l.length := rfl
      omega
    have H : Hid (findL s L = some (st, ln)) := hfl
    clear hfl h
    by_cases h1 : C < 1
    · clear hout
      go_enter Tryd.func10, Tryd.ntmps10
      go_wp2_with (go_at_call 27; refine (find_some_calls s (by omega) _ st ln H.out _).mono ?_; rintro e w1 ⟨rfl, hb⟩; obtain ⟨hc, hf⟩ := bcell hb)
      go_ret2
      exact ⟨rfl, ((Below.refl _ w).alloc (Nat.le_refl _) _).trans (hb.mono (by simp))⟩
    · have h2 : (ln.size : Int) + 1 < C := by omega
      clear hout
      go_enter Tryd.func10, Tryd.ntmps10
      go_wp2_with (go_at_call 27; refine (find_some_calls s (by omega) _ st ln H.out _).mono ?_; rintro e w1 ⟨rfl, hb⟩; obtain ⟨hc, hf⟩ := bcell hb)
      go_ret2
      exact ⟨rfl, ((Below.refl _ w).alloc (Nat.le_refl _) _).trans (hb.mono (by simp))⟩

/-- Which is ahead, as a number. -/
def cmpM (a b c d : Int) : Int := if a < c ∨ a = c ∧ b < d then -1 else if a = c ∧ b = d then 0 else 1

set_option maxHeartbeats 800000 in
theorem refCompare_calls (a b c d : Int) (w : World) :
    Calls Tryd.prog 20 #[.agg #[.int .i64 a, .int .i64 b], .agg #[.int .i64 c, .int .i64 d]] w fun e w' => e = .returned (.int .i64 (cmpM a b c d)) ∧ Below w.heap.size w w' := by
  by_cases h1 : a < c
  · have e : cmpM a b c d = -1 := by unfold cmpM; rw [if_pos (by omega)]
    rw [e]
    go_enter Tryd.func20, Tryd.ntmps20
    go_wp2
    go_ret
    exact ⟨rfl, ((Below.refl _ w).alloc (Nat.le_refl _) _).alloc (by simp) _⟩
  · by_cases h2 : a = c
    · subst h2
      by_cases h3 : b < d
      · have e : cmpM a b a d = -1 := by unfold cmpM; rw [if_pos (by omega)]
        rw [e]
        go_enter Tryd.func20, Tryd.ntmps20
        go_wp2
        go_ret
        exact ⟨rfl, ((Below.refl _ w).alloc (Nat.le_refl _) _).alloc (by simp) _⟩
      · by_cases h4 : b = d
        · subst h4
          have e : cmpM a b a b = 0 := by unfold cmpM; rw [if_neg (by omega), if_pos (by omega)]
          rw [e]
          go_enter Tryd.func20, Tryd.ntmps20
          go_wp2
          go_ret
          exact ⟨rfl, ((Below.refl _ w).alloc (Nat.le_refl _) _).alloc (by simp) _⟩
        · have e : cmpM a b a d = 1 := by unfold cmpM; rw [if_neg (by omega), if_neg (by omega)]
          rw [e]
          go_enter Tryd.func20, Tryd.ntmps20
          go_wp2
          go_ret
          exact ⟨rfl, ((Below.refl _ w).alloc (Nat.le_refl _) _).alloc (by simp) _⟩
    · have e : cmpM a b c d = 1 := by unfold cmpM; rw [if_neg (by omega), if_neg (by omega)]
      rw [e]
      go_enter Tryd.func20, Tryd.ntmps20
      go_wp2
      go_ret
      exact ⟨rfl, ((Below.refl _ w).alloc (Nat.le_refl _) _).alloc (by simp) _⟩

/-- cmp.Or of two: the first that isn't nought. -/
def orI (x y : Int) : Int := if x = 0 then y else x

set_option maxHeartbeats 800000 in
theorem Or_calls (B : Nat) (x y : Int) (w : World) (h0 : w.cell? ⟨B, 0, none⟩ = some (.int .i64 x)) (h1 : w.cell? ⟨B, 1, none⟩ = some (.int .i64 y)) :
    Calls Tryd.prog 29 #[.slice (some ⟨B, 0, none⟩) 2 2] w fun e w' => e = .returned (.int .i64 (orI x y)) ∧ w' = w := by
  by_cases hx : x = 0
  · have e : orI x y = y := by unfold orI; rw [if_pos hx]
    rw [e]
    subst hx
    clear e
    by_cases hy : y = 0
    · subst hy
      go_enter Tryd.func29, Tryd.ntmps29
      go_wp2
      refine wp_loop_rounds 3 ?_; rw [rounds_succ]
      go_wp2
      rw [rounds_succ]
      go_wp2
      rw [rounds_succ]
      go_wp2
      go_ret
      exact ⟨rfl, rfl⟩
    · go_enter Tryd.func29, Tryd.ntmps29
      go_wp2
      refine wp_loop_rounds 2 ?_; rw [rounds_succ]
      go_wp2
      rw [rounds_succ]
      go_wp2
      go_ret
      exact ⟨rfl, rfl⟩
  · have e : orI x y = x := by unfold orI; rw [if_neg hx]
    rw [e]
    clear e
    go_enter Tryd.func29, Tryd.ntmps29
    go_wp2
    refine wp_loop_rounds 1 ?_; rw [rounds_succ]
    go_wp2
    go_ret
    exact ⟨rfl, rfl⟩

theorem cmpM_or (a b c d : Int) : orI (Lib.compareInt a c) (Lib.compareInt b d) = cmpM a b c d := by
  unfold orI cmpM Lib.compareInt
  by_cases h1 : a < c
  · simp [h1]
  · by_cases h2 : c < a
    · have : ¬ a = c := by omega
      simp [h1, h2, this]
    · have h3 : a = c := by omega
      by_cases h4 : b < d
      · simp [h3, h4]
      · by_cases h5 : d < b
        · have : ¬ b = d := by omega
          simp [h3, h4, h5, this]
        · have : b = d := by omega
          simp [h3, this]

/-- A region that draws its order, whose first n operations read alone and whose others are forced: the world behind the draw under a name. -/
theorem region_tail {P : Program} {id : Nat} {Q : Exit → Act → World → Prop} {a : Act} {w : World} {l : List Oper} (n : Nat) (hm : P.follows .mixedOrders = true) (hB : Region.lexTailB .any l.toArray n = true)
    (h : ∀ W, W = w.drew → wpStill P l.toArray W (fun a' => wpList P l.toArray Q (l.drop n) a' W) (l.take n) a) : (Code.region id l.toArray true).wp P Q a w :=
  wp_region_still_tail n hm hB (h _ rfl)

set_option maxHeartbeats 800000 in
theorem Compare_calls (a b c d : Int) (w : World) :
    Calls Tryd.prog 19 #[.agg #[.int .i64 a, .int .i64 b], .agg #[.int .i64 c, .int .i64 d]] w fun e w' => e = .returned (.int .i64 (cmpM a b c d)) ∧ Below w.heap.size w w' := by
  obtain ⟨N, hN⟩ : ∃ N, w.heap.size = N := ⟨_, rfl⟩
  go_enter Tryd.func19, Tryd.ntmps19
  go_wp2
  refine region_tail 10 (by kernel_rfl) (by kernel_rfl) ?_
  intro W hW
  have b0 : Blk W N 25 #[.int .i64 a, .int .i64 b] := by rw [hW]; exact (Blk.new' w N 25 _ hN).alloc _
  have b1 : Blk W (N + 1) 25 #[.int .i64 c, .int .i64 d] := by rw [hW]; exact Blk.new' _ _ 25 _ (by simp [hN])
  have hb : Below N w W := by rw [hW]; exact (((Below.refl N w).alloc (by simp [hN]) _).alloc (by simp [hN]) _).drew
  have hsz : N ≤ W.heap.size := by rw [hW]; show N ≤ ((w.alloc _).alloc _).heap.size; simp [hN]; omega
  have q0 : W.cell? ⟨N, 0, none⟩ = some (.int .i64 a) := b0.cell 0
  have q1 : W.cell? ⟨N, 1, none⟩ = some (.int .i64 b) := b0.cell 1
  have q2 : W.cell? ⟨N + 1, 0, none⟩ = some (.int .i64 c) := b1.cell 0
  have q3 : W.cell? ⟨N + 1, 1, none⟩ = some (.int .i64 d) := b1.cell 1
  have HN : Hid (w.heap.size = N) := hN
  clear hW
  simp only [List.take_succ_cons, List.take_zero, List.drop_succ_cons, List.drop_zero]
  clear hN
  repeat still_step
  still_call (Tryd.cmp_Compare_int _ _ _)
  repeat still_step
  still_call (Tryd.cmp_Compare_int _ _ _)
  refine wpStill_nil ?_
  go_wp2_with (go_at_call 29; refine (Or_calls _ (Lib.compareInt a c) (Lib.compareInt b d) _ ((Blk.new W 3 _).cell 0) ((Blk.new W 3 _).cell 1)).mono ?_; rintro e w' ⟨rfl, rfl⟩)
  go_ret
  exact ⟨ret_int (cmpM_or a b c d), by rw [HN.out]; exact hb.alloc hsz _⟩

end Go.Proofs.YtjmpacenlmoldaaDoor
