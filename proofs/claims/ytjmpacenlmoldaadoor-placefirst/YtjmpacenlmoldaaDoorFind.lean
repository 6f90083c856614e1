/-
  The contracts of place.lines, place.find, place.Lines and place.Of: what they answer of any text.
-/
import Derived.Test.YtjmpacenlmoldaaDoorIter
import Derived.Test.YtjmpacenlmoldaaDoorBlk
namespace Go.Proofs.YtjmpacenlmoldaaDoor
open Go Go.RowKit Go.Shelf Plain

attribute [local go_sem] Oper.semAt_some

theorem lines_in (n : Nat) (s : ByteArray) (w : World) :
    CallsIn Fence.wide n Tryd.prog 26 #[.string s] w fun e w' => e = .returned (.func (.func 32) #[] #[.pointer (some ⟨w.heap.size, 0, none⟩)]) ∧ w' = w.alloc (.cells #[.string s] 9) := by
  refine callsIn_of_wp Tryd.func26 rfl trivial ?_ rfl
  simp only [Tryd.ntmps26, List.size_toArray, List.length_cons, List.length_nil, Nat.reduceAdd, Nat.reduceSub, Array.replicate_succ, Array.replicate_zero, List.push_toArray, List.append_toArray, List.nil_append, List.cons_append]
  gi_wp2
  go_ret
  exact ⟨rfl, rfl⟩

theorem keeps_t {B : Nat} {s : ByteArray} {A C D : World} (h : Keeps B s A C) (k : Keeps B s C D) : Keeps B s A D := fun hc => k (h hc)
theorem keeps_b {B : Nat} {s : ByteArray} {w : World} (W : World) (l : Nat) (o o' : Obj) (_ : w.heap.size ≤ l) (h : W.heap[l]? = some o) (hc : o.isCells = false) (_ : o.isWalk = false) : Keeps B s W (W.putObj l o') :=
  fun hq => cell_kept hq (grownBy_putObj' _ l _) (fun r e => by cases e; exact ⟨_, h, hc⟩)

/-- The line of that number, as find tells it. -/
def findL (s : ByteArray) (n : Int) : Option (Int × ByteArray) := if 1 ≤ n then (allLines s)[n.toNat - 1]? else none
def findV : Option (Int × ByteArray) → Value
  | none => .tuple #[.int .i64 0, .string ⟨#[]⟩, .bool false]
  | some x => .tuple #[.int .i64 x.1, .string x.2, .bool true]

theorem findL_hit (s : ByteArray) (pre : List (Int × ByteArray)) (x : Int × ByteArray) (h : pre ++ [x] <+: allLines s) : findL s ((pre.length : Int) + 1) = some x := by
  unfold findL
  rw [if_pos (by omega)]
  have e : ((pre.length : Int) + 1).toNat - 1 = pre.length := by omega
  rw [e]
  obtain ⟨t, ht⟩ := h
  rw [← ht]
  simp

theorem findL_miss (s : ByteArray) (k : Int) (h : ¬ (1 ≤ k ∧ k ≤ ((allLines s).length : Int))) : findL s k = none := by
  unfold findL
  by_cases h1 : 1 ≤ k
  · rw [if_pos h1]
    rw [List.getElem?_eq_none_iff]
    omega
  · rw [if_neg h1]

set_option maxRecDepth 100000 in
set_option maxHeartbeats 2000000 in
theorem find_in (n : Nat) (hn : 4 ≤ n) (s : ByteArray) (hs : s.size ≤ 4611686018427387904) (k : Int) (w : World) :
    CallsIn Fence.wide n Tryd.prog 27 #[.string s, .int .i64 k] w fun e w' => e = .returned (findV (findL s k)) ∧ Below w.heap.size w w' := by
  have h1 : 1 ≤ n := by omega
  have hf26 : Fence.wide.fn 26 := trivial
  refine callsIn_of_wp_marks Tryd.func27 rfl trivial ?_ rfl
  simp only [Tryd.ntmps27, List.size_toArray, List.length_cons, List.length_nil, Nat.reduceAdd, Nat.reduceSub, Array.replicate_succ, Array.replicate_zero, List.push_toArray, List.append_toArray, List.nil_append, List.cons_append]
  gi_wp2_with (gi_at_call 26; refine (lines_in _ _ _).mono ?_; rintro e w' ⟨rfl, rfl⟩)
  obtain ⟨N, hN⟩ : ∃ N, w.heap.size = N := ⟨_, rfl⟩
  rw [hN]
  obtain ⟨W0, hW0⟩ : ∃ W0, (((((w.alloc (.cells #[.int .i64 k] 3)).alloc (.cells #[.int .i64 0] 3)).alloc (.cells #[.string ⟨#[]⟩] 9)).alloc (.cells #[.bool false] 4)).alloc (.cells #[.int .i64 0] 3)).alloc (.cells #[.string s] 9) = W0 := ⟨_, rfl⟩
  have b0 : Blk W0 N 3 #[.int .i64 k] := by rw [← hW0]; exact (((((Blk.new' w N 3 _ hN).alloc _).alloc _).alloc _).alloc _).alloc _
  have b1 : Blk W0 (N + 1) 3 #[.int .i64 0] := by rw [← hW0]; exact ((((Blk.new' _ _ 3 _ (by simp [hN])).alloc _).alloc _).alloc _).alloc _
  have b2 : Blk W0 (N + 1 + 1) 9 #[.string ⟨#[]⟩] := by rw [← hW0]; exact (((Blk.new' _ _ 9 _ (by simp [hN])).alloc _).alloc _).alloc _
  have b3 : Blk W0 (N + 1 + 1 + 1) 4 #[.bool false] := by rw [← hW0]; exact ((Blk.new' _ _ 4 _ (by simp [hN])).alloc _).alloc _
  have b4 : Blk W0 (N + 1 + 1 + 1 + 1) 3 #[.int .i64 0] := by rw [← hW0]; exact (Blk.new' _ _ 3 _ (by simp [hN])).alloc _
  have b5 : Blk W0 (N + 1 + 1 + 1 + 1 + 1) 9 #[.string s] := by rw [← hW0]; exact Blk.new' _ _ 9 _ (by simp [hN])
  have hsz : W0.heap.size = N + 6 := by rw [← hW0]; simp [hN]
  have hb : Below N w W0 := by
    rw [← hW0]
    exact ((((((Below.refl N w).alloc (by simp [hN]) _).alloc (by simp [hN]) _).alloc (by simp [hN]; omega) _).alloc (by simp [hN]; omega) _).alloc (by simp [hN]; omega) _).alloc (by simp [hN]; omega) _
  rw [hW0]
  have HN : Hid (w.heap.size = N) := hN
  clear hW0 hN
  refine wpIn_rangeFunc_ownF rfl h1 (gf := 32) (lb := #[.pointer (some ⟨N + 1 + 1 + 1 + 1 + 1, 0, none⟩)]) rfl trivial (enters_of Tryd.func32 (by kernel_rfl) rfl)
    (lines1_stops (n - 1) (by omega) (N + 1 + 1 + 1 + 1 + 1) s hs W0 (by omega) (b5.cell 0)) keeps_t keeps_b (Below.refl _ _) (fun _ => rfl)
    (fun pre W => (Blk W N 3 #[.int .i64 k] ∧ Blk W (N + 1) 3 #[.int .i64 0] ∧ Blk W (N + 1 + 1) 9 #[.string ⟨#[]⟩] ∧ Blk W (N + 1 + 1 + 1) 4 #[.bool false] ∧ Blk W (N + 1 + 1 + 1 + 1) 3 #[.int .i64 (pre.length : Int)] ∧ Blk W (N + 1 + 1 + 1 + 1 + 1) 9 #[.string s] ∧ Hid (¬ (1 ≤ k ∧ k ≤ (pre.length : Int)))) ∧ Below N w W)
    (fun c pre W => (c = .ret ∧ ∃ p x, pre = p ++ [x] ∧ k = (p.length : Int) + 1 ∧ Blk W (N + 1) 3 #[.int .i64 x.1] ∧ Blk W (N + 1 + 1) 9 #[.string x.2] ∧ Blk W (N + 1 + 1 + 1) 4 #[.bool true]) ∧ Below N w W)
    (OwnFrom.and (fun s A B row hs hg hr => by
        have hr' := fun r e => (hr r e).2
        exact ⟨hs.1.own hg hr', hs.2.1.own hg hr', hs.2.2.1.own hg hr', hs.2.2.2.1.own hg hr', hs.2.2.2.2.1.own hg hr', hs.2.2.2.2.2.1.own hg hr', hs.2.2.2.2.2.2⟩) (ownFrom_below (by rw [HN.out]; exact Nat.le_refl _) (by omega)))
    (fun c => OwnFrom.and (fun s A B row hs hg hr => by
        have hr' := fun r e => (hr r e).2
        obtain ⟨e1, p, x, e2, e3, q1, q2, q3⟩ := hs
        exact ⟨e1, p, x, e2, e3, q1.own hg hr', q2.own hg hr', q3.own hg hr'⟩) (ownFrom_below (by rw [HN.out]; exact Nat.le_refl _) (by omega)))
    ⟨⟨b0, b1, b2, b3, b4, b5, fun h => by simp at h; omega⟩, hb⟩
    (fun x => { tmps := #[.string s, .int .i64 k, undef, .pointer (some ⟨N, 0, none⟩), .pointer (some ⟨N + 1, 0, none⟩), .pointer (some ⟨N + 1 + 1, 0, none⟩), .pointer (some ⟨N + 1 + 1 + 1, 0, none⟩), .pointer (some ⟨N + 1 + 1 + 1 + 1, 0, none⟩), .int .i64 x.1, .string x.2, .string s, .func (.func 32) #[] #[.pointer (some ⟨N + 1 + 1 + 1 + 1 + 1, 0, none⟩)], .int .i64 x.1, .string x.2, undef, undef, undef, undef, undef, undef, undef], defers := [] }) ?assign ?body ?done ?stop
  case assign =>
    intro l x W K hK
    gi_wp2
    exact hK
  case body =>
    rintro l pre x W ⟨⟨c0, c1, c2, c3, c4, c5, hno⟩, hbl⟩ hlt
    have q0 : W.cell? ⟨N, 0, none⟩ = some (.int .i64 k) := c0.cell 0
    have q1 : W.cell? ⟨N + 1, 0, none⟩ = some (.int .i64 0) := c1.cell 0
    have q2 : W.cell? ⟨N + 1 + 1, 0, none⟩ = some (.string ⟨#[]⟩) := c2.cell 0
    have q3 : W.cell? ⟨N + 1 + 1 + 1, 0, none⟩ = some (.bool false) := c3.cell 0
    have q4 : W.cell? ⟨N + 1 + 1 + 1 + 1, 0, none⟩ = some (.int .i64 (pre.length : Int)) := c4.cell 0
    have f1 := c1.frozen 0
    have f2 := c2.frozen 0
    have f3 := c3.frozen 0
    have f4 := c4.frozen 0
    have hpl : (pre.length : Int) ≤ 4611686018427387904 := by omega
    by_cases hk : (pre.length : Int) + 1 = k
    · have hkb : ((pre.length : Int) + 1 == k) = true := by simp [hk]
      have HK : Hid ((pre.length : Int) + 1 = k) := hk
      clear hk
      gi_wp2
      refine ⟨(((KeepsOthers.setCell _ _ _).trans (KeepsOthers.setCell _ _ _)).trans (KeepsOthers.setCell _ _ _)).trans (KeepsOthers.setCell _ _ _), ⟨rfl, pre, x, rfl, HK.out.symm, ?_, ?_, ?_⟩, ?_⟩
      · exact (((c1.other (by omega) 0 _).set 0 _).other (by omega) 0 _).other (by omega) 0 _
      · exact (((c2.other (by omega) 0 _).other (by omega) 0 _).set 0 _).other (by omega) 0 _
      · exact (((c3.other (by omega) 0 _).other (by omega) 0 _).other (by omega) 0 _).set 0 _
      · exact bset (bset (bset (bset hbl (by omega) _) (by omega) _) (by omega) _) (by omega) _
    · have hkb : ((pre.length : Int) + 1 == k) = false := by simp [hk]
      have HK : Hid (¬ (pre.length : Int) + 1 = k) := hk
      clear hk
      gi_wp2
      have hl : ((pre ++ [x]).length : Int) = (pre.length : Int) + 1 := by simp
      refine ⟨KeepsOthers.setCell _ _ _, fun hc => (c5.other (by omega) 0 _).cell 0, ⟨c0.other (by omega) 0 _, c1.other (by omega) 0 _, c2.other (by omega) 0 _, c3.other (by omega) 0 _, ?_, c5.other (by omega) 0 _, ?_⟩, bset hbl (by omega) _⟩
      · rw [hl]; exact c4.set 0 _
      · rw [hl]
        intro hh
        have h2 := HK.out
        have h3 := hno.out
        omega
  case done =>
    rintro D ys W hD rfl ⟨⟨c0, c1, c2, c3, c4, c5, hno⟩, hbl⟩ hK
    have f1 := c1.frozen 0
    have f2 := c2.frozen 0
    have f3 := c3.frozen 0
    have q1 : W.cell? ⟨N + 1, 0, none⟩ = some (.int .i64 0) := c1.cell 0
    have q2 : W.cell? ⟨N + 1 + 1, 0, none⟩ = some (.string ⟨#[]⟩) := c2.cell 0
    have q3 : W.cell? ⟨N + 1 + 1 + 1, 0, none⟩ = some (.bool false) := c3.cell 0
    gi_wp2
    have d1 := (((c1.set 0 (.int .i64 0)).other (B' := N + 1 + 1) (by omega) 0 (.string ⟨#[]⟩)).other (B' := N + 1 + 1 + 1) (by omega) 0 (.bool false))
    have d2 := (((c2.other (B' := N + 1) (by omega) 0 (.int .i64 0)).set 0 (.string ⟨#[]⟩)).other (B' := N + 1 + 1 + 1) (by omega) 0 (.bool false))
    have d3 := (((c3.other (B' := N + 1) (by omega) 0 (.int .i64 0)).other (B' := N + 1 + 1) (by omega) 0 (.string ⟨#[]⟩)).set 0 (.bool false))
    have hbl' : Below N w (((W.setCell ⟨N + 1, 0, none⟩ (.int .i64 0)).setCell ⟨N + 1 + 1, 0, none⟩ (.string ⟨#[]⟩)).setCell ⟨N + 1 + 1 + 1, 0, none⟩ (.bool false)) := bset (bset (bset hbl (by omega) _) (by omega) _) (by omega) _
    have hK' := (((KeepsOthers.setCell W ⟨N + 1, 0, none⟩ (.int .i64 0)).trans (KeepsOthers.setCell _ ⟨N + 1 + 1, 0, none⟩ (.string ⟨#[]⟩))).trans (KeepsOthers.setCell _ ⟨N + 1 + 1 + 1, 0, none⟩ (.bool false))).same D _ hK rfl
    generalize ((W.setCell ⟨N + 1, 0, none⟩ (.int .i64 0)).setCell ⟨N + 1 + 1, 0, none⟩ (.string ⟨#[]⟩)).setCell ⟨N + 1 + 1 + 1, 0, none⟩ (.bool false) = W3 at *
    refine ⟨by simp, .inl ⟨_, _, rfl, run_takeDeferred hK', ?_⟩⟩
    have e1 : (W3.putObj D (.deferred none)).cell? ⟨N + 1, 0, none⟩ = some (.int .i64 0) := (d1.put (.deferred none) hK' rfl).cell 0
    have e2 : (W3.putObj D (.deferred none)).cell? ⟨N + 1 + 1, 0, none⟩ = some (.string ⟨#[]⟩) := (d2.put (.deferred none) hK' rfl).cell 0
    have e3 : (W3.putObj D (.deferred none)).cell? ⟨N + 1 + 1 + 1, 0, none⟩ = some (.bool false) := (d3.put (.deferred none) hK' rfl).cell 0
    refine ⟨findV none, ?_, by rw [findL_miss s k hno.out], ?_⟩
    · simp [results, Tryd.f27, go_sem, e1, e2, e3, findV]
    · rw [HN.out]
      exact hbl'.trans (belowK_b (w := W0) (by omega) W3 D _ _ hD hK' rfl rfl)
  case stop =>
    rintro D c pre W hD hpre ⟨⟨rfl, p, x, rfl, hkk, c1, c2, c3⟩, hbl⟩ hK
    have HK : Hid (k = (p.length : Int) + 1) := hkk
    clear hkk
    gi_wp2
    refine ⟨by simp, .inl ⟨_, _, rfl, run_takeDeferred hK, ?_⟩⟩
    have e1 : (W.putObj D (.deferred none)).cell? ⟨N + 1, 0, none⟩ = some (.int .i64 x.1) := (c1.put (.deferred none) hK rfl).cell 0
    have e2 : (W.putObj D (.deferred none)).cell? ⟨N + 1 + 1, 0, none⟩ = some (.string x.2) := (c2.put (.deferred none) hK rfl).cell 0
    have e3 : (W.putObj D (.deferred none)).cell? ⟨N + 1 + 1 + 1, 0, none⟩ = some (.bool true) := (c3.put (.deferred none) hK rfl).cell 0
    refine ⟨findV (some x), ?_, by rw [HK.out, findL_hit s p x hpre], ?_⟩
    · simp [results, Tryd.f27, go_sem, e1, e2, e3, findV]
    · rw [HN.out]
      exact hbl.trans (belowK_b (w := W0) (by omega) W D _ _ hD hK rfl rfl)

end Go.Proofs.YtjmpacenlmoldaaDoor
