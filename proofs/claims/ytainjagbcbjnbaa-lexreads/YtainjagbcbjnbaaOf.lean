/-
  The contract of place.Of: the place that so many bytes stand ahead of (as at stage 1, over this program's numbers).
-/
import Derived.Test.YtainjagbcbjnbaaIter
import Derived.Test.YtainjagbcbjnbaaBlk
namespace Go.Proofs.Ytainjagbcbjnbaa
open Go Go.RowKit Go.Shelf Plain

attribute [local go_sem] Oper.semAt_some

theorem lines_in (n : Nat) (s : ByteArray) (w : World) :
    CallsIn Fence.wide n Try.prog 53 #[.string s] w fun e w' => e = .returned (.func (.func 63) #[] #[.pointer (some ⟨w.heap.size, 0, none⟩)]) ∧ w' = w.alloc (.cells #[.string s] 9) := by
  refine callsIn_of_wp Try.func53 rfl trivial ?_ rfl
  simp only [Try.ntmps53, List.size_toArray, List.length_cons, List.length_nil, Nat.reduceAdd, Nat.reduceSub, Array.replicate_succ, Array.replicate_zero, List.push_toArray, List.append_toArray, List.nil_append, List.cons_append]
  gi_wp2
  go_ret
  exact ⟨rfl, rfl⟩

theorem keeps_t {B : Nat} {s : ByteArray} {A C D : World} (h : Keeps B s A C) (k : Keeps B s C D) : Keeps B s A D := fun hc => k (h hc)
theorem keeps_b {B : Nat} {s : ByteArray} {w : World} (W : World) (l : Nat) (o o' : Obj) (_ : w.heap.size ≤ l) (h : W.heap[l]? = some o) (hc : o.isCells = false) (_ : o.isWalk = false) : Keeps B s W (W.putObj l o') :=
  fun hq => cell_kept hq (grownBy_putObj' _ l _) (fun r e => by cases e; exact ⟨_, h, hc⟩)

/-- What Of's rounds make of the place, as the machine reckons. -/
def ofAcc (k : Int) (pre : List (Int × ByteArray)) : Int × Int := pre.foldl (fun m y => (m.1 + 1, wrap64 (wrap64 (k - y.1) + 1))) (0, 0)
theorem ofAcc_snoc (k : Int) (pre : List (Int × ByteArray)) (x : Int × ByteArray) : ofAcc k (pre ++ [x]) = ((ofAcc k pre).1 + 1, wrap64 (wrap64 (k - x.1) + 1)) := by simp [ofAcc]
theorem ofAcc_fst (k : Int) (pre : List (Int × ByteArray)) : (ofAcc k pre).1 = (pre.length : Int) := by
  have : ∀ (l : List (Int × ByteArray)) (m : Int × Int), (l.foldl (fun m y => (m.1 + 1, wrap64 (wrap64 (k - y.1) + 1))) m).1 = m.1 + l.length := by
    intro l
    induction l with
    | nil => intro m; simp
    | cons y l ih => intro m; rw [List.foldl_cons, ih]; simp; omega
  have h := this pre (0, 0)
  unfold ofAcc; rw [h]; simp

theorem wrap_sub_add (a b : Int) (h0 : 0 ≤ b) (h1 : b ≤ a) (h2 : a ≤ 4611686018427387904) : wrap64 (wrap64 (a - b) + 1) = a - b + 1 := by
  have e : wrap64 (a - b) = a - b := by unfold wrap64; omega
  rw [e]; unfold wrap64; omega

theorem ofAcc_run (k : Nat) (hk : k ≤ 4611686018427387904) (p : List (Nat × List UInt8)) (h : ∀ y ∈ p, ¬ k < y.1) :
    ofAcc k (p.map conv) = (((ofRun k (0, 0) p).1 : Int), ((ofRun k (0, 0) p).2 : Int)) := by
  have : ∀ (p : List (Nat × List UInt8)) (m : Nat × Nat), (∀ y ∈ p, ¬ k < y.1) → (p.map conv).foldl (fun m y => (m.1 + 1, wrap64 (wrap64 ((k : Int) - y.1) + 1))) ((m.1 : Int), (m.2 : Int)) = (((ofRun k m p).1 : Int), ((ofRun k m p).2 : Int)) := by
    intro p
    induction p with
    | nil => intro m _; simp [ofRun]
    | cons y p ih =>
      intro m hm
      have hy := hm y (by simp)
      simp only [List.map_cons, List.foldl_cons, ofRun, if_neg hy]
      rw [← ih _ (fun z hz => hm z (by simp [hz]))]
      congr 1
      simp only [conv]
      rw [wrap_sub_add _ _ (by omega) (by omega) (by omega)]
      congr 1 <;> omega
  exact this p (0, 0) h

/-- All lines that begin at or ahead of k, then one that begins behind it, or none: the place is the mark. -/
theorem of_front (s : ByteArray) (k : Nat) (hk : k ≤ s.size) (hs : s.size ≤ 4611686018427387904) (pre : List (Int × ByteArray)) (hp : ∀ y ∈ pre, ¬ (k : Int) < y.1)
    (h : pre = allLines s ∨ ∃ x, (k : Int) < x.1 ∧ pre ++ [x] <+: allLines s) :
    ofAcc k pre = (((Plain.mark (s.data.toList.take k)).1 : Int), ((Plain.mark (s.data.toList.take k)).2 : Int)) := by
  have hk' : k ≤ s.data.toList.length := by simpa using hk
  rw [← ofRun_mark _ _ hk']
  rcases h with rfl | ⟨x, hx, t, ht⟩
  · rw [show allLines s = (lns 0 [] s.data.toList).map conv from rfl]
    refine ofAcc_run k (by omega) _ (fun y hy => ?_)
    have := hp (conv y) (List.mem_map_of_mem hy)
    simp only [conv] at this; omega
  · have e1 : (lns 0 [] s.data.toList).map conv = pre ++ (x :: t) := by rw [show (lns 0 [] s.data.toList).map conv = allLines s from rfl, ← ht]; simp
    obtain ⟨p, q, e2, e3, e4⟩ := List.map_eq_append_iff.1 e1
    obtain ⟨x', q', e5, e6, e7⟩ := List.map_eq_cons_iff.1 e4
    rw [e2, e5, ← e3]
    have hp' : ∀ y ∈ p, ¬ k < y.1 := fun y hy => by
      have := hp (conv y) (by rw [← e3]; exact List.mem_map_of_mem hy)
      simp only [conv] at this; omega
    have hx' : k < x'.1 := by rw [← e6] at hx; simp only [conv] at hx; omega
    rw [ofRun_stop k (0, 0) p x' q' hx' hp']
    exact ofAcc_run k (by omega) p hp'

def NotBehind (k : Nat) (pre : List (Int × ByteArray)) : Prop := ∀ y ∈ pre, ¬ (k : Int) < y.1
def OfLeft (k N : Nat) (pre : List (Int × ByteArray)) (W : World) : Prop := ∃ p x, pre = p ++ [x] ∧ (k : Int) < x.1 ∧ Blk W (N + 1) 25 #[.int .i64 0, .int .i64 0] ∧ Blk W (N + 1 + 1) 25 #[.int .i64 (ofAcc k p).1, .int .i64 (ofAcc k p).2] ∧ NotBehind k p

set_option maxRecDepth 100000 in
set_option maxHeartbeats 2000000 in
theorem Of_in (n : Nat) (hn : 4 ≤ n) (s : ByteArray) (hs : s.size ≤ 4611686018427387904) (k : Nat) (hk : k ≤ s.size) (w : World) :
    CallsIn Fence.wide n Try.prog 46 #[.string s, .int .i64 k] w fun e w' => e = .returned (.tuple #[.agg #[.int .i64 ((Plain.mark (s.data.toList.take k)).1 : Int), .int .i64 ((Plain.mark (s.data.toList.take k)).2 : Int)], .int .i64 0]) ∧ Below w.heap.size w w' := by
  have h1 : 1 ≤ n := by omega
  have hf53 : Fence.wide.fn 53 := trivial
  have hk0 : decide ((k : Int) < 0) = false := by simp
  refine callsIn_of_wp_marks Try.func46 rfl trivial ?_ rfl
  simp only [Try.ntmps46, List.size_toArray, List.length_cons, List.length_nil, Nat.reduceAdd, Nat.reduceSub, Array.replicate_succ, Array.replicate_zero, List.push_toArray, List.append_toArray, List.nil_append, List.cons_append]
  gi_wp2_with (gi_at_call 53; refine (lines_in _ _ _).mono ?_; rintro e w' ⟨rfl, rfl⟩)
  obtain ⟨N, hN⟩ : ∃ N, w.heap.size = N := ⟨_, rfl⟩
  rw [hN]
  obtain ⟨W0, hW0⟩ : ∃ W0, (((w.alloc (.cells #[.int .i64 k] 3)).alloc (.cells #[.int .i64 0, .int .i64 0] 25)).alloc (.cells #[.int .i64 0, .int .i64 0] 25)).alloc (.cells #[.string s] 9) = W0 := ⟨_, rfl⟩
  have b0 : Blk W0 N 3 #[.int .i64 k] := by rw [← hW0]; exact (((Blk.new' w N 3 _ hN).alloc _).alloc _).alloc _
  have b1 : Blk W0 (N + 1) 25 #[.int .i64 0, .int .i64 0] := by rw [← hW0]; exact ((Blk.new' _ _ 25 _ (by simp [hN])).alloc _).alloc _
  have b2 : Blk W0 (N + 1 + 1) 25 #[.int .i64 0, .int .i64 0] := by rw [← hW0]; exact (Blk.new' _ _ 25 _ (by simp [hN])).alloc _
  have b3 : Blk W0 (N + 1 + 1 + 1) 9 #[.string s] := by rw [← hW0]; exact Blk.new' _ _ 9 _ (by simp [hN])
  have hsz : W0.heap.size = N + 4 := by rw [← hW0]; simp [hN]
  have hb : Below N w W0 := by
    rw [← hW0]
    exact ((((Below.refl N w).alloc (by simp [hN]) _).alloc (by simp [hN]) _).alloc (by simp [hN]; omega) _).alloc (by simp [hN]; omega) _
  rw [hW0]
  have HN : Hid (w.heap.size = N) := hN
  clear hW0 hN
  refine wpIn_rangeFunc_ownF rfl h1 (gf := 63) (lb := #[.pointer (some ⟨N + 1 + 1 + 1, 0, none⟩)]) rfl trivial (enters_of Try.func63 (by kernel_rfl) rfl)
    (lines1_stops (n - 1) (by omega) (N + 1 + 1 + 1) s hs W0 (by omega) (b3.cell 0)) keeps_t keeps_b (Below.refl _ _) (fun _ => rfl)
    (fun pre W => (Blk W N 3 #[.int .i64 k] ∧ Blk W (N + 1) 25 #[.int .i64 0, .int .i64 0] ∧ Blk W (N + 1 + 1) 25 #[.int .i64 (ofAcc k pre).1, .int .i64 (ofAcc k pre).2] ∧ Blk W (N + 1 + 1 + 1) 9 #[.string s] ∧ NotBehind k pre) ∧ Below N w W)
    (fun c pre W => (c = .exit 0 ∧ OfLeft k N pre W) ∧ Below N w W)
    (OwnFrom.and (fun s A B row hs hg hr => by
        have hr' := fun r e => (hr r e).2
        exact ⟨hs.1.own hg hr', hs.2.1.own hg hr', hs.2.2.1.own hg hr', hs.2.2.2.1.own hg hr', hs.2.2.2.2⟩) (ownFrom_below (by rw [HN.out]; exact Nat.le_refl _) (by omega)))
    (fun c => OwnFrom.and (fun s A B row hs hg hr => by
        have hr' := fun r e => (hr r e).2
        obtain ⟨e1, p, x, e2, e3, q1, q2, q3⟩ := hs
        exact ⟨e1, p, x, e2, e3, q1.own hg hr', q2.own hg hr', q3⟩) (ownFrom_below (by rw [HN.out]; exact Nat.le_refl _) (by omega)))
    ⟨⟨b0, b1, b2, b3, fun y hy => by cases hy⟩, hb⟩
    (fun x => { tmps := #[.string s, .int .i64 k, undef, .pointer (some ⟨N, 0, none⟩), .pointer (some ⟨N + 1, 0, none⟩), .int .i64 0, .pointer (some ⟨N + 1 + 1, 0, none⟩), .int .i64 x.1, .int .i64 k, .bool false, .bool false, .int .i64 k, .string s, .int .i64 s.size, .bool false, .bool false, undef, .agg #[.int .i64 0, .int .i64 0], .string s, .func (.func 63) #[] #[.pointer (some ⟨N + 1 + 1 + 1, 0, none⟩)], .int .i64 x.1, .string x.2, undef, undef, undef, undef, undef, undef, undef, undef, undef, undef, undef, undef, undef], defers := [] }) ?assign ?body ?done ?stop
  case assign =>
    intro l x W K hK
    gi_wp2
    exact hK
  case body =>
    rintro l pre x W ⟨⟨c0, c1, c2, c3, hno⟩, hbl⟩ hlt
    have q0 : W.cell? ⟨N, 0, none⟩ = some (.int .i64 k) := c0.cell 0
    rw [ofAcc_fst] at c2
    have q2 : W.cell? ⟨N + 1 + 1, 0, none⟩ = some (.int .i64 (pre.length : Int)) := c2.cell 0
    have q3 : W.cell? ⟨N + 1 + 1, 1, none⟩ = some (.int .i64 (ofAcc k pre).2) := c2.cell 1
    have f2 := c2.frozen 0
    have f3 := c2.frozen 1
    have hpl : (pre.length : Int) ≤ 4611686018427387904 := by omega
    by_cases hx : (k : Int) < x.1
    · gi_wp2
      exact ⟨KeepsOthers.refl _, ⟨rfl, pre, x, rfl, hx, c1, by rw [ofAcc_fst]; exact c2, hno⟩, hbl⟩
    · gi_wp2
      refine ⟨(KeepsOthers.setCell _ _ _).trans (KeepsOthers.setCell _ _ _), fun hc => ((c3.other (by omega) 0 _).other (by omega) 1 _).cell 0, ⟨(c0.other (by omega) 0 _).other (by omega) 1 _, (c1.other (by omega) 0 _).other (by omega) 1 _, ?_, (c3.other (by omega) 0 _).other (by omega) 1 _, ?_⟩, bset (bset hbl (by omega) _) (by omega) _⟩
      · rw [ofAcc_snoc, ofAcc_fst]
        exact (c2.set 0 _).set 1 _
      · intro y hy
        rcases List.mem_append.1 hy with h | h
        · exact hno y h
        · rw [List.mem_singleton.1 h]; omega
  case done =>
    rintro D ys W hD rfl ⟨⟨c0, c1, c2, c3, hno⟩, hbl⟩ hK
    rw [of_front s k hk hs _ hno (.inl rfl)] at c2
    have q1 : W.cell? ⟨N + 1, 0, none⟩ = some (.int .i64 0) := c1.cell 0
    have q1' : W.cell? ⟨N + 1, 1, none⟩ = some (.int .i64 0) := c1.cell 1
    have f1 := c1.frozen 0
    have f1' := c1.frozen 1
    have q2 : W.cell? ⟨N + 1 + 1, 0, none⟩ = some (.int .i64 ((Plain.mark (s.data.toList.take k)).1 : Int)) := c2.cell 0
    have q2' : W.cell? ⟨N + 1 + 1, 1, none⟩ = some (.int .i64 ((Plain.mark (s.data.toList.take k)).2 : Int)) := c2.cell 1
    obtain ⟨m, hm⟩ : ∃ m, m = Plain.mark (s.data.toList.take k) := ⟨_, rfl⟩
    rw [← hm] at c2 q2 q2'
    have HM : Hid (m = Plain.mark (s.data.toList.take k)) := hm
    clear hm
    gi_wp2
    have d1 := (c1.set 0 (.int .i64 (m.1 : Int))).set 1 (.int .i64 (m.2 : Int))
    have hbl' : Below N w ((W.setCell ⟨N + 1, 0, none⟩ (.int .i64 (m.1 : Int))).setCell ⟨N + 1, 1, none⟩ (.int .i64 (m.2 : Int))) := bset (bset hbl (by omega) _) (by omega) _
    have hK' := ((KeepsOthers.setCell W ⟨N + 1, 0, none⟩ (.int .i64 (m.1 : Int))).trans (KeepsOthers.setCell _ ⟨N + 1, 1, none⟩ (.int .i64 (m.2 : Int)))).same D _ hK rfl
    generalize (W.setCell ⟨N + 1, 0, none⟩ (.int .i64 (m.1 : Int))).setCell ⟨N + 1, 1, none⟩ (.int .i64 (m.2 : Int)) = W3 at *
    refine ⟨by simp, .inl ⟨_, _, rfl, run_takeDeferred hK', ?_⟩⟩
    have e1 : (W3.putObj D (.deferred none)).cell? ⟨N + 1, 0, none⟩ = some (.int .i64 (m.1 : Int)) := (d1.put (.deferred none) hK' rfl).cell 0
    have e2 : (W3.putObj D (.deferred none)).cell? ⟨N + 1, 1, none⟩ = some (.int .i64 (m.2 : Int)) := (d1.put (.deferred none) hK' rfl).cell 1
    refine ⟨.tuple #[.agg #[.int .i64 (m.1 : Int), .int .i64 (m.2 : Int)], .int .i64 0], ?_, by rw [← HM.out], ?_⟩
    · simp [results, Try.f46, go_sem, e1, e2]
    · rw [HN.out]
      exact hbl'.trans (belowK_b (w := W0) (by omega) W3 D _ _ hD hK' rfl rfl)
  case stop =>
    rintro D c pre W hD hpre ⟨⟨rfl, p, x, rfl, hx, c1, c2, hno⟩, hbl⟩ hK
    rw [of_front s k hk hs _ hno (.inr ⟨x, hx, hpre⟩)] at c2
    have q1 : W.cell? ⟨N + 1, 0, none⟩ = some (.int .i64 0) := c1.cell 0
    have q1' : W.cell? ⟨N + 1, 1, none⟩ = some (.int .i64 0) := c1.cell 1
    have f1 := c1.frozen 0
    have f1' := c1.frozen 1
    have q2 : W.cell? ⟨N + 1 + 1, 0, none⟩ = some (.int .i64 ((Plain.mark (s.data.toList.take k)).1 : Int)) := c2.cell 0
    have q2' : W.cell? ⟨N + 1 + 1, 1, none⟩ = some (.int .i64 ((Plain.mark (s.data.toList.take k)).2 : Int)) := c2.cell 1
    obtain ⟨m, hm⟩ : ∃ m, m = Plain.mark (s.data.toList.take k) := ⟨_, rfl⟩
    rw [← hm] at c2 q2 q2'
    have HM : Hid (m = Plain.mark (s.data.toList.take k)) := hm
    clear hm
    gi_wp2
    have d1 := (c1.set 0 (.int .i64 (m.1 : Int))).set 1 (.int .i64 (m.2 : Int))
    have hbl' : Below N w ((W.setCell ⟨N + 1, 0, none⟩ (.int .i64 (m.1 : Int))).setCell ⟨N + 1, 1, none⟩ (.int .i64 (m.2 : Int))) := bset (bset hbl (by omega) _) (by omega) _
    have hK' := ((KeepsOthers.setCell W ⟨N + 1, 0, none⟩ (.int .i64 (m.1 : Int))).trans (KeepsOthers.setCell _ ⟨N + 1, 1, none⟩ (.int .i64 (m.2 : Int)))).same D _ hK rfl
    generalize (W.setCell ⟨N + 1, 0, none⟩ (.int .i64 (m.1 : Int))).setCell ⟨N + 1, 1, none⟩ (.int .i64 (m.2 : Int)) = W3 at *
    refine ⟨by simp, .inl ⟨_, _, rfl, run_takeDeferred hK', ?_⟩⟩
    have e1 : (W3.putObj D (.deferred none)).cell? ⟨N + 1, 0, none⟩ = some (.int .i64 (m.1 : Int)) := (d1.put (.deferred none) hK' rfl).cell 0
    have e2 : (W3.putObj D (.deferred none)).cell? ⟨N + 1, 1, none⟩ = some (.int .i64 (m.2 : Int)) := (d1.put (.deferred none) hK' rfl).cell 1
    refine ⟨.tuple #[.agg #[.int .i64 (m.1 : Int), .int .i64 (m.2 : Int)], .int .i64 0], ?_, by rw [← HM.out], ?_⟩
    · simp [results, Try.f46, go_sem, e1, e2]
    · rw [HN.out]
      exact hbl'.trans (belowK_b (w := W0) (by omega) W3 D _ _ hD hK' rfl rfl)

theorem Of_calls (s : ByteArray) (hs : s.size ≤ 4611686018427387904) (k : Nat) (hk : k ≤ s.size) (w : World) :
    Calls Try.prog 46 #[.string s, .int .i64 k] w fun e w' => e = .returned (.tuple #[.agg #[.int .i64 ((Plain.mark (s.data.toList.take k)).1 : Int), .int .i64 ((Plain.mark (s.data.toList.take k)).2 : Int)], .int .i64 0]) ∧ Below w.heap.size w w' :=
  (callsIn_wide (n := 6)).1 (Of_in 6 (by omega) s hs k hk w)

set_option maxRecDepth 100000 in
set_option maxHeartbeats 2000000 in
theorem Of_none (s : ByteArray) (k : Int) (hk : k < 0 ∨ (s.size : Int) < k) (w : World) :
    Calls Try.prog 46 #[.string s, .int .i64 k] w fun e w' => e = .returned (.tuple #[.agg #[.int .i64 0, .int .i64 0], .int .i64 1]) ∧ Below w.heap.size w w' := by
  by_cases h0 : k < 0
  · go_enter Try.func46, Try.ntmps46
    go_wp2
    exact bodyPost_ret (v := .tuple #[.agg #[.int .i64 0, .int .i64 0], .int .i64 1]) (by simp [results, Try.results46, go_sem]) rfl ⟨rfl, ((Below.refl _ w).alloc (Nat.le_refl _) _).alloc (by simp) _⟩
  · have h1 : (s.size : Int) < k := by omega
    clear hk
    go_enter Try.func46, Try.ntmps46
    go_wp2
    exact bodyPost_ret (v := .tuple #[.agg #[.int .i64 0, .int .i64 0], .int .i64 1]) (by simp [results, Try.results46, go_sem]) rfl ⟨rfl, ((Below.refl _ w).alloc (Nat.le_refl _) _).alloc (by simp) _⟩

end Go.Proofs.Ytainjagbcbjnbaa
