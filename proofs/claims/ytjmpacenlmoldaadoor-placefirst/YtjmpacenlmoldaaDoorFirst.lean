/-
  The contract of place.First: of the faults that are handed in the one whose place is ahead of the others'.
-/
import Derived.Test.YtjmpacenlmoldaaDoorText
import Derived.BigRegion
import Derived.Deep.Cut
namespace Go.Proofs.YtjmpacenlmoldaaDoor
open Go Go.RowKit Go.Shelf Go.Sort Plain

/-- A fault: its code, its line, its column, its word. -/
structure Flt where
  c : Int
  a : Int
  b : Int
  wd : ByteArray

def stepB (acc : Option Flt) (x : Flt) : Option Flt :=
  if x.c = 0 then acc else match acc with
    | none => some x
    | some y => if cmpM x.a x.b y.a y.b < 0 then some x else some y
def best (l : List Flt) : Option Flt := l.foldl stepB none
theorem best_snoc (l : List Flt) (x : Flt) : best (l ++ [x]) = stepB (best l) x := by simp [best]
theorem best_mem (l : List Flt) : ∀ y, best l = some y → y ∈ l := by
  have : ∀ (l : List Flt) (acc : Option Flt) (y : Flt), l.foldl stepB acc = some y → acc = some y ∨ y ∈ l := by
    intro l
    induction l with
    | nil => intro acc y h; exact .inl h
    | cons x l ih =>
      intro acc y h
      rw [List.foldl_cons] at h
      rcases ih _ _ h with h' | h'
      · unfold stepB at h'
        by_cases hc : x.c = 0
        · rw [if_pos hc] at h'; exact .inl h'
        · rw [if_neg hc] at h'
          cases acc with
          | none => simp at h'; exact .inr (by simp [h'])
          | some z =>
            simp only at h'
            by_cases hz : cmpM x.a x.b z.a z.b < 0
            · rw [if_pos hz] at h'; exact .inr (by simp at h'; simp [h'])
            · rw [if_neg hz] at h'; exact .inl h'
      · exact .inr (by simp [h'])
  intro y h
  rcases this l none y h with h' | h'
  · cases h'
  · exact h'

def accF (acc : Option Flt) : Flt := acc.getD ⟨0, 0, 0, ⟨#[]⟩⟩
def fcells (x : Flt) : Array Value := #[.int .i64 x.c, .int .i64 x.a, .int .i64 x.b, .string x.wd]

/-- The cells from ⟨g, off⟩ on hold these faults. -/
def Holds4 (w : World) (g off : Nat) (fs : List Flt) : Prop :=
  ∀ i x, fs[i]? = some x → w.cell? ⟨g, off + i * 4, none⟩ = some (.int .i64 x.c) ∧ w.cell? ⟨g, off + i * 4 + 1, none⟩ = some (.int .i64 x.a) ∧ w.cell? ⟨g, off + i * 4 + 2, none⟩ = some (.int .i64 x.b) ∧ w.cell? ⟨g, off + i * 4 + 3, none⟩ = some (.string x.wd)
theorem Holds4.below {w w' : World} {g off n : Nat} {fs : List Flt} (h : Holds4 w g off fs) (hb : Below n w w') (hg : g < n) : Holds4 w' g off fs := fun i x hx => by
  obtain ⟨h1, h2, h3, h4⟩ := h i x hx
  exact ⟨(hb.cell (p := ⟨g, _, none⟩) hg).trans h1, (hb.cell (p := ⟨g, _, none⟩) hg).trans h2, (hb.cell (p := ⟨g, _, none⟩) hg).trans h3, (hb.cell (p := ⟨g, _, none⟩) hg).trans h4⟩

set_option maxHeartbeats 1600000 in
theorem First_calls (g cap : Nat) (fs : List Flt) (hn : fs.length ≤ 50) (_hc : fs.length ≤ cap) (hwd : ∀ x ∈ fs, x.wd.size ≤ 281474976710656) (w : World) (hg : g < w.heap.size) (hf : Holds4 w g 0 fs) :
    Calls Tryd.prog 21 #[.slice (some ⟨g, 0, none⟩) fs.length cap] w fun r w' => r = .returned (.tuple #[.agg (fcells (accF (best fs))), .bool (best fs).isSome]) ∧ Below w.heap.size w w' := by
  obtain ⟨N, hN⟩ : ∃ N, w.heap.size = N := ⟨_, rfl⟩
  rw [hN] at hg
  have HN : Hid (w.heap.size = N) := hN
  go_enter Tryd.func21, Tryd.ntmps21
  go_wp2
  go_loopw [5, 11] (fun t i wr => ∃ (k : Nat) (acc : Option Flt), k ≤ fs.length ∧ i = .int .i64 k ∧ t = .bool acc.isSome ∧ Blk wr N 53 #[.int .i64 0, .int .i64 0, .int .i64 0, .string ⟨#[]⟩] ∧ Blk wr (N + 1) 53 (fcells (accF acc)) ∧ Hid (acc = best (fs.take k)) ∧ Below N w wr)
    (fun _ i _ => fs.length - (intOf i).toNat)
  case atStart =>
    refine ⟨0, none, Nat.zero_le _, rfl, rfl, ?_, ?_, rfl, ?_⟩
    · exact (Blk.new' w N 53 _ hN).alloc _
    · exact Blk.new' _ _ 53 _ (by simp [hN])
    · exact ((Below.refl N w).alloc (by simp [hN]) _).alloc (by simp [hN]) _
  case round =>
    obtain ⟨k, acc, hk, rfl, rfl, c0, c1, hacc, hb⟩ := hrel
    have hNW : N + 1 < wr.heap.size := c1.lt
    by_cases hlt : k < fs.length
    · obtain ⟨y, hy⟩ : ∃ y, fs[k]? = some y := ⟨_, List.getElem?_eq_getElem hlt⟩
      obtain ⟨q0, q1, q2, q3⟩ := (hf.below hb hg) k y hy
      simp only [Nat.zero_add] at q0 q1 q2 q3
      have hbest : best (fs.take (k + 1)) = stepB acc y := by
        have := hacc.out
        rw [this, ← best_snoc]
        congr 1
        rw [List.take_add_one, hy]; rfl
      have HB : Hid (best (fs.take (k + 1)) = stepB acc y) := hbest
      have HY : Hid (fs[k]? = some y) := hy
      obtain ⟨yc, ya, yb, yw⟩ := y
      simp only at q0 q1 q2 q3
      clear hbest hy
      by_cases hz : yc = 0
      · subst hz
        have HS : Hid (stepB acc ⟨0, ya, yb, yw⟩ = acc) := by show _ = _; simp [stepB]
        go_wp2
        exact ⟨⟨k + 1, acc, by omega, by go_num, rfl, c0.alloc _, c1.alloc _, by show _ = _; rw [HB.out, HS.out], hb.alloc (by omega) _⟩, by simp [intOf]; omega⟩
      · have hzb : (yc == 0) = false := by simp [hz]
        cases acc with
        | none =>
          have HS : Hid (stepB none ⟨yc, ya, yb, yw⟩ = some ⟨yc, ya, yb, yw⟩) := by show _ = _; simp [stepB, hz]
          clear hz
          go_upto_region 7 with fail
          obtain ⟨M, hM⟩ : ∃ M, wr.heap.size = M := ⟨_, rfl⟩
          rw [hM]
          generalize hW : wr.alloc (.cells #[.int .i64 yc, .int .i64 ya, .int .i64 yb, .string yw] 53) = W1
          have d0 : Blk W1 N 53 #[.int .i64 0, .int .i64 0, .int .i64 0, .string ⟨#[]⟩] := by rw [← hW]; exact c0.alloc _
          have d1 : Blk W1 (N + 1) 53 #[.int .i64 0, .int .i64 0, .int .i64 0, .string ⟨#[]⟩] := by rw [← hW]; exact c1.alloc _
          have d2 : Blk W1 M 53 #[.int .i64 yc, .int .i64 ya, .int .i64 yb, .string yw] := by rw [← hW]; exact Blk.new' wr M 53 _ hM
          have hb1 : Below N w W1 := by rw [← hW]; exact hb.alloc (by omega) _
          clear hW hM
          have f0 : W1.cell? ⟨M, 0, none⟩ = some (.int .i64 yc) := d2.cell 0
          have f1 : W1.cell? ⟨M, 1, none⟩ = some (.int .i64 ya) := d2.cell 1
          have f2 : W1.cell? ⟨M, 2, none⟩ = some (.int .i64 yb) := d2.cell 2
          have f3 : W1.cell? ⟨M, 3, none⟩ = some (.string yw) := d2.cell 3
          have p0 : W1.cell? ⟨N + 1, 0, none⟩ = some (.int .i64 0) := d1.cell 0
          have p1 : W1.cell? ⟨N + 1, 1, none⟩ = some (.int .i64 0) := d1.cell 1
          have p2 : W1.cell? ⟨N + 1, 2, none⟩ = some (.int .i64 0) := d1.cell 2
          have p3 : W1.cell? ⟨N + 1, 3, none⟩ = some (.string ⟨#[]⟩) := d1.cell 3
          have g0 : ∀ j, W1.frozen? ⟨N + 1, j, none⟩ = false := fun j => d1.frozen j
          go_wp2
          refine ⟨⟨k + 1, some ⟨yc, ya, yb, yw⟩, by omega, by go_num, rfl, (((d0.other (by omega) 0 _).other (by omega) 1 _).other (by omega) 2 _).other (by omega) 3 _, (((d1.set 0 _).set 1 _).set 2 _).set 3 _, by show _ = _; rw [HB.out, HS.out], bset (bset (bset (bset hb1 (by omega) _) (by omega) _) (by omega) _) (by omega) _⟩, by simp [intOf]; omega⟩
        | some z =>
          obtain ⟨zc, za, zb, zw⟩ := z
          have hcm : Hid (stepB (some ⟨zc, za, zb, zw⟩) ⟨yc, ya, yb, yw⟩ = if cmpM ya yb za zb < 0 then some ⟨yc, ya, yb, yw⟩ else some ⟨zc, za, zb, zw⟩) := by show _ = _; simp [stepB, hz]
          clear hz
          go_upto_region 6 with fail
          obtain ⟨M, hM⟩ : ∃ M, wr.heap.size = M := ⟨_, rfl⟩
          rw [hM]
          have hNM : N + 1 < M := by omega
          generalize hW : wr.alloc (.cells #[.int .i64 yc, .int .i64 ya, .int .i64 yb, .string yw] 53) = W1
          have d0 : Blk W1 N 53 #[.int .i64 0, .int .i64 0, .int .i64 0, .string ⟨#[]⟩] := by rw [← hW]; exact c0.alloc _
          have d1 : Blk W1 (N + 1) 53 #[.int .i64 zc, .int .i64 za, .int .i64 zb, .string zw] := by rw [← hW]; exact c1.alloc _
          have d2 : Blk W1 M 53 #[.int .i64 yc, .int .i64 ya, .int .i64 yb, .string yw] := by rw [← hW]; exact Blk.new' wr M 53 _ hM
          have hb1 : Below N w W1 := by rw [← hW]; exact hb.alloc (by omega) _
          clear hW hM
          have f1 : W1.cell? ⟨M, 1, none⟩ = some (.int .i64 ya) := d2.cell 1
          have f2 : W1.cell? ⟨M, 2, none⟩ = some (.int .i64 yb) := d2.cell 2
          have p1 : W1.cell? ⟨N + 1, 1, none⟩ = some (.int .i64 za) := d1.cell 1
          have p2 : W1.cell? ⟨N + 1, 2, none⟩ = some (.int .i64 zb) := d1.cell 2
          go_wp2_with fail
          refine (Compare_calls ya yb za zb _).mono ?_
          rintro e w2 ⟨rfl, hb2⟩
          have e0 := d0.below hb2 d0.lt
          have e1 := d1.below hb2 d1.lt
          have e2 := d2.below hb2 d2.lt
          have hbw : Below N w w2 := hb1.trans (hb2.mono (Nat.le_of_lt d0.lt))
          by_cases hcc : cmpM ya yb za zb < 0
          · have HS : Hid (stepB (some ⟨zc, za, zb, zw⟩) ⟨yc, ya, yb, yw⟩ = some ⟨yc, ya, yb, yw⟩) := by show _ = _; rw [hcm.out, if_pos hcc]
            have f0 : w2.cell? ⟨M, 0, none⟩ = some (.int .i64 yc) := e2.cell 0
            have f1 : w2.cell? ⟨M, 1, none⟩ = some (.int .i64 ya) := e2.cell 1
            have f2 : w2.cell? ⟨M, 2, none⟩ = some (.int .i64 yb) := e2.cell 2
            have f3 : w2.cell? ⟨M, 3, none⟩ = some (.string yw) := e2.cell 3
            have p0 : w2.cell? ⟨N + 1, 0, none⟩ = some (.int .i64 zc) := e1.cell 0
            have p1 : w2.cell? ⟨N + 1, 1, none⟩ = some (.int .i64 za) := e1.cell 1
            have p2 : w2.cell? ⟨N + 1, 2, none⟩ = some (.int .i64 zb) := e1.cell 2
            have p3 : w2.cell? ⟨N + 1, 3, none⟩ = some (.string zw) := e1.cell 3
            have g0 : ∀ j, w2.frozen? ⟨N + 1, j, none⟩ = false := fun j => e1.frozen j
            go_wp2
            exact ⟨⟨k + 1, some ⟨yc, ya, yb, yw⟩, by omega, by go_num, rfl, (((e0.other (by omega) 0 _).other (by omega) 1 _).other (by omega) 2 _).other (by omega) 3 _, (((e1.set 0 _).set 1 _).set 2 _).set 3 _, by show _ = _; rw [HB.out, HS.out], bset (bset (bset (bset hbw (by omega) _) (by omega) _) (by omega) _) (by omega) _⟩, by simp [intOf]; omega⟩
          · have HS : Hid (stepB (some ⟨zc, za, zb, zw⟩) ⟨yc, ya, yb, yw⟩ = some ⟨zc, za, zb, zw⟩) := by show _ = _; rw [hcm.out, if_neg hcc]
            go_wp2
            exact ⟨⟨k + 1, some ⟨zc, za, zb, zw⟩, by omega, by go_num, rfl, e0, e1, by show _ = _; rw [HB.out, HS.out], hbw⟩, by simp [intOf]; omega⟩
    · obtain rfl : k = fs.length := by omega
      have hb0 : acc = best fs := by have := hacc.out; rwa [List.take_length] at this
      have hws : (accF acc).wd.size ≤ 281474976710656 := by
        cases acc with
        | none => decide
        | some y => exact hwd y (best_mem fs y hb0.symm)
      have HB : Hid (acc = best fs) := hb0
      clear hb0 hacc
      obtain ⟨x, hx⟩ : ∃ x, x = accF acc := ⟨_, rfl⟩
      rw [← hx] at c1 hws
      have HX : Hid (x = accF acc) := hx
      clear hx
      obtain ⟨xc, xa, xb, xw⟩ := x
      have p0 : wr.cell? ⟨N + 1, 0, none⟩ = some (.int .i64 xc) := c1.cell 0
      have p1 : wr.cell? ⟨N + 1, 1, none⟩ = some (.int .i64 xa) := c1.cell 1
      have p2 : wr.cell? ⟨N + 1, 2, none⟩ = some (.int .i64 xb) := c1.cell 2
      have p3 : wr.cell? ⟨N + 1, 3, none⟩ = some (.string xw) := c1.cell 3
      go_wp2_with fail
      refine (clone_calls xw hws _).mono ?_
      rintro e w2 ⟨rfl, hb2⟩
      have e0 := c0.below hb2 c0.lt
      have e1 := c1.below hb2 c1.lt
      have hbw : Below N w w2 := hb.trans (hb2.mono (Nat.le_of_lt c0.lt))
      have p0 : w2.cell? ⟨N + 1, 0, none⟩ = some (.int .i64 xc) := e1.cell 0
      have p1 : w2.cell? ⟨N + 1, 1, none⟩ = some (.int .i64 xa) := e1.cell 1
      have p2 : w2.cell? ⟨N + 1, 2, none⟩ = some (.int .i64 xb) := e1.cell 2
      have p3 : w2.cell? ⟨N + 1, 3, none⟩ = some (.string xw) := e1.cell 3
      have r0 : w2.cell? ⟨N, 0, none⟩ = some (.int .i64 0) := e0.cell 0
      have r1 : w2.cell? ⟨N, 1, none⟩ = some (.int .i64 0) := e0.cell 1
      have r2 : w2.cell? ⟨N, 2, none⟩ = some (.int .i64 0) := e0.cell 2
      have r3 : w2.cell? ⟨N, 3, none⟩ = some (.string ⟨#[]⟩) := e0.cell 3
      have g0 : ∀ j, w2.frozen? ⟨N + 1, j, none⟩ = false := fun j => e1.frozen j
      have g1 : ∀ j, w2.frozen? ⟨N, j, none⟩ = false := fun j => e0.frozen j
      go_wp2
      have D := ((((e0.other (B' := N + 1) (by omega) 3 (.string xw)).set 0 (.int .i64 xc)).set 1 (.int .i64 xa)).set 2 (.int .i64 xb)).set 3 (.string xw)
      have hB : Below N w (((((w2.setCell ⟨N + 1, 3, none⟩ (.string xw)).setCell ⟨N, 0, none⟩ (.int .i64 xc)).setCell ⟨N, 1, none⟩ (.int .i64 xa)).setCell ⟨N, 2, none⟩ (.int .i64 xb)).setCell ⟨N, 3, none⟩ (.string xw)) := bset (bset (bset (bset (bset hbw (by omega) _) (by omega) _) (by omega) _) (by omega) _) (by omega) _
      generalize (((((w2.setCell ⟨N + 1, 3, none⟩ (.string xw)).setCell ⟨N, 0, none⟩ (.int .i64 xc)).setCell ⟨N, 1, none⟩ (.int .i64 xa)).setCell ⟨N, 2, none⟩ (.int .i64 xb)).setCell ⟨N, 3, none⟩ (.string xw)) = Wf at *
      have d0 : Wf.cell? ⟨N, 0, none⟩ = some (.int .i64 xc) := D.cell 0
      have d1 : Wf.cell? ⟨N, 1, none⟩ = some (.int .i64 xa) := D.cell 1
      have d2 : Wf.cell? ⟨N, 2, none⟩ = some (.int .i64 xb) := D.cell 2
      have d3 : Wf.cell? ⟨N, 3, none⟩ = some (.string xw) := D.cell 3
      refine bodyPost_ret (v := .tuple #[.agg #[.int .i64 xc, .int .i64 xa, .int .i64 xb, .string xw], .bool acc.isSome]) (by simp [results, Tryd.results21, go_sem, d0, d1, d2, d3]) rfl ⟨?_, by rw [HN.out]; exact hB⟩
      rw [← HB.out, ← HX.out]
      rfl

set_option maxHeartbeats 800000 in
theorem First_nil (w : World) :
    Calls Tryd.prog 21 #[.slice none 0 0] w fun r w' => r = .returned (.tuple #[.agg #[.int .i64 0, .int .i64 0, .int .i64 0, .string ⟨#[]⟩], .bool false]) ∧ Below w.heap.size w w' := by
  obtain ⟨N, hN⟩ : ∃ N, w.heap.size = N := ⟨_, rfl⟩
  have HN : Hid (w.heap.size = N) := hN
  go_enter Tryd.func21, Tryd.ntmps21
  go_wp2
  refine wp_loop_rounds 1 ?_; rw [rounds_succ]
  go_wp2_with fail
  generalize hW : (w.alloc (.cells #[.int .i64 0, .int .i64 0, .int .i64 0, .string ⟨#[]⟩] 53)).alloc (.cells #[.int .i64 0, .int .i64 0, .int .i64 0, .string ⟨#[]⟩] 53) = W1
  have c0 : Blk W1 N 53 #[.int .i64 0, .int .i64 0, .int .i64 0, .string ⟨#[]⟩] := by rw [← hW]; exact (Blk.new' w N 53 _ hN).alloc _
  have c1 : Blk W1 (N + 1) 53 #[.int .i64 0, .int .i64 0, .int .i64 0, .string ⟨#[]⟩] := by rw [← hW]; exact Blk.new' _ _ 53 _ (by simp [hN])
  have hb : Below N w W1 := by rw [← hW]; exact ((Below.refl N w).alloc (by simp [hN]) _).alloc (by simp [hN]) _
  clear hW hN
  refine (clone_calls ⟨#[]⟩ (by decide) _).mono ?_
  rintro e w2 ⟨rfl, hb2⟩
  have e0 := c0.below hb2 c0.lt
  have e1 := c1.below hb2 c1.lt
  have hbw : Below N w w2 := hb.trans (hb2.mono (Nat.le_of_lt c0.lt))
  have p0 : w2.cell? ⟨N + 1, 0, none⟩ = some (.int .i64 0) := e1.cell 0
  have p1 : w2.cell? ⟨N + 1, 1, none⟩ = some (.int .i64 0) := e1.cell 1
  have p2 : w2.cell? ⟨N + 1, 2, none⟩ = some (.int .i64 0) := e1.cell 2
  have p3 : w2.cell? ⟨N + 1, 3, none⟩ = some (.string ⟨#[]⟩) := e1.cell 3
  have r0 : w2.cell? ⟨N, 0, none⟩ = some (.int .i64 0) := e0.cell 0
  have r1 : w2.cell? ⟨N, 1, none⟩ = some (.int .i64 0) := e0.cell 1
  have r2 : w2.cell? ⟨N, 2, none⟩ = some (.int .i64 0) := e0.cell 2
  have r3 : w2.cell? ⟨N, 3, none⟩ = some (.string ⟨#[]⟩) := e0.cell 3
  have g0 : ∀ j, w2.frozen? ⟨N + 1, j, none⟩ = false := fun j => e1.frozen j
  have g1 : ∀ j, w2.frozen? ⟨N, j, none⟩ = false := fun j => e0.frozen j
  go_wp2
  have D := ((((e0.other (B' := N + 1) (by omega) 3 (.string ⟨#[]⟩)).set 0 (.int .i64 0)).set 1 (.int .i64 0)).set 2 (.int .i64 0)).set 3 (.string ⟨#[]⟩)
  have hB : Below N w (((((w2.setCell ⟨N + 1, 3, none⟩ (.string ⟨#[]⟩)).setCell ⟨N, 0, none⟩ (.int .i64 0)).setCell ⟨N, 1, none⟩ (.int .i64 0)).setCell ⟨N, 2, none⟩ (.int .i64 0)).setCell ⟨N, 3, none⟩ (.string ⟨#[]⟩)) := bset (bset (bset (bset (bset hbw (by omega) _) (by omega) _) (by omega) _) (by omega) _) (by omega) _
  generalize (((((w2.setCell ⟨N + 1, 3, none⟩ (.string ⟨#[]⟩)).setCell ⟨N, 0, none⟩ (.int .i64 0)).setCell ⟨N, 1, none⟩ (.int .i64 0)).setCell ⟨N, 2, none⟩ (.int .i64 0)).setCell ⟨N, 3, none⟩ (.string ⟨#[]⟩)) = Wf at *
  have d0 : Wf.cell? ⟨N, 0, none⟩ = some (.int .i64 0) := D.cell 0
  have d1 : Wf.cell? ⟨N, 1, none⟩ = some (.int .i64 0) := D.cell 1
  have d2 : Wf.cell? ⟨N, 2, none⟩ = some (.int .i64 0) := D.cell 2
  have d3 : Wf.cell? ⟨N, 3, none⟩ = some (.string ⟨#[]⟩) := D.cell 3
  exact bodyPost_ret (v := .tuple #[.agg #[.int .i64 0, .int .i64 0, .int .i64 0, .string ⟨#[]⟩], .bool false]) (by simp [results, Tryd.results21, go_sem, d0, d1, d2, d3]) rfl ⟨rfl, by rw [HN.out]; exact hB⟩

end Go.Proofs.YtjmpacenlmoldaaDoor
