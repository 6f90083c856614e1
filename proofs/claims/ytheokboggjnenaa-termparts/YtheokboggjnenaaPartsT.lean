/-
  The contract of the document's Right.
-/
import Derived.Test.YtheokboggjnenaaRightH
import Derived.Test.YtheokboggjnenaaSizeT
import Derived.Test.YtheokboggjnenaaFewL
import Derived.Test.YtheokboggjnenaaRefMetas
import Derived.Test.YtheokboggjnenaaSpine
import Derived.Test.YtheokboggjnenaaCountH
import Derived.Test.YtheokboggjnenaaDepthH
import Derived.Test.YtheokboggjnenaaLooseH
import Derived.Test.YtheokboggjnenaaKnownT
namespace Go.Proofs.Ytheokboggjnenaa
open Go Go.RowKit Go.Sort

set_option maxRecDepth 100000 in
set_option maxHeartbeats 800000 in
theorem refRightT_calls (t : Tm) (ok : Nat → Prop) (sb sl : Value) (w : World) (hb : Holds w ok t.binds sb) (hh : HoldsT w ok t.args sl) (hsz : t.size ≤ 1000000) :
    Calls Try.prog 13 #[tmv sb t.kind t.idx sl] w fun e w' => e = .returned (.bool (rightTB t)) ∧ Below w.heap.size w w' := by
  obtain ⟨x1, x2, rfl, _⟩ := hb.shape
  obtain ⟨x3, x4, rfl, _⟩ := hh.shape
  obtain ⟨bn, hbn⟩ : ∃ n, t.binds.length = n := ⟨_, rfl⟩
  obtain ⟨an, han⟩ : ∃ n, t.args.length = n := ⟨_, rfl⟩
  rw [hbn] at hb ⊢
  rw [han] at hh ⊢
  obtain ⟨N, hN⟩ : ∃ N, w.heap.size = N := ⟨_, rfl⟩
  obtain ⟨W1, hW1⟩ : ∃ W1, w.alloc (.cells #[.slice x1 bn x2, .int .i64 t.kind, .int .i64 t.idx, .slice x3 an x4] 27) = W1 := ⟨_, rfl⟩
  have b1 : Blk W1 N 27 #[.slice x1 bn x2, .int .i64 t.kind, .int .i64 t.idx, .slice x3 an x4] := by rw [← hW1]; exact Blk.new' w N 27 _ hN
  have hbl : Below N w W1 := by rw [← hW1]; exact (Below.refl N w).alloc (by omega) _
  have hb1 := hb.bel (hN ▸ hbl)
  have hh1 := hh.bel (hN ▸ hbl)
  have hcall := refSizeT_calls t ok (.slice x1 bn x2) (.slice x3 an x4) W1 hb1 hh1 hsz
  have hD := fun cur (h : Below W1.heap.size W1 cur) => refDepthT_calls t ok (.slice x1 bn x2) (.slice x3 an x4) cur (hb1.bel h) (hh1.bel h) hsz
  have c0 := b1.cell 0
  have c1 := b1.cell 1
  have c2 := b1.cell 2
  have c3 := b1.cell 3
  rw [hN]
  have HR : Hid (rightTB t = (decide (t.size ≤ 5000) && decide (t.depth ≤ 60))) := rfl
  obtain ⟨r, hr⟩ : ∃ r, rightTB t = r := ⟨_, rfl⟩
  rw [hr] at HR ⊢
  obtain ⟨s, hs⟩ : ∃ s, t.size = s := ⟨_, rfl⟩
  obtain ⟨d, hd⟩ : ∃ s, t.depth = s := ⟨_, rfl⟩
  rw [hs] at hcall HR
  rw [hd] at HR
  simp only [hd] at hD
  have HW : Hid _ := hW1
  clear hW1 hs hd hr hsz hb hh hb1 hh1
  go_enter Try.func13, Try.ntmps13
  go_upto_region 1 with fail
  rw [HW.out]
  clear HW
  go_wp2_with fail
  refine hcall.mono ?_
  clear hcall
  rintro e w2 ⟨rfl, h2⟩
  have bl2 : Below N w w2 := hbl.trans (h2.mono (by have := hbl.size; omega))
  have b2 := b1.below h2 b1.lt
  have hDc := hD w2 h2
  have e0 := b2.cell 0
  have e1 := b2.cell 1
  have e2 := b2.cell 2
  have e3 := b2.cell 3
  clear c0 c1 c2 c3 hD
  by_cases q1 : s ≤ 5000
  · have z1 : decide ((s : Int) ≤ 5000) = true := decide_eq_true (by omega)
    have z2 : decide (s ≤ 5000) = true := decide_eq_true q1
    have HR2 : Hid (r = decide (d ≤ 60)) := by show _ = _; rw [HR.out, z2]; rfl
    clear HR
    go_wp2_with fail
    refine hDc.mono ?_
    clear hDc
    rintro e w3 ⟨rfl, h3⟩
    have bl3 : Below N w w3 := bl2.trans (h3.mono (by have := bl2.size; omega))
    clear e0 e1 e2 e3
    by_cases q2 : d ≤ 60
    · have z3 : decide ((d : Int) ≤ 60) = true := decide_eq_true (by omega)
      go_wp2
      go_ret
      refine ⟨?_, bl3⟩
      rw [HR2.out, decide_eq_true q2]; rfl
    · have z3 : decide ((d : Int) ≤ 60) = false := decide_eq_false (by omega)
      go_wp2
      go_ret
      refine ⟨?_, bl3⟩
      rw [HR2.out, decide_eq_false q2]; rfl
  · have z1 : decide ((s : Int) ≤ 5000) = false := decide_eq_false (by omega)
    have HR2 : Hid (r = false) := by show _ = _; rw [HR.out, decide_eq_false q1]; rfl
    clear HR hDc
    go_wp2
    go_ret
    refine ⟨?_, bl2⟩
    rw [HR2.out]; rfl

end Go.Proofs.Ytheokboggjnenaa

/-
  The contract of the document's Like, of two rows that hold the same.
-/
namespace Go.Proofs.Ytheokboggjnenaa
open Go Go.RowKit Go.Sort

set_option maxRecDepth 100000 in
set_option maxHeartbeats 1600000 in
theorem Like_calls (O : List Int) (a b : Option Addr) (ca cb : Nat) (w : World) (hl : O.length ≤ 100000)
    (ha : ∀ j z, O[j]? = some z → ∃ g, a = some ⟨g, 0, none⟩ ∧ w.cell? ⟨g, j, none⟩ = some (.int .i64 z))
    (hb : ∀ j z, O[j]? = some z → ∃ g, b = some ⟨g, 0, none⟩ ∧ w.cell? ⟨g, j, none⟩ = some (.int .i64 z)) :
    Calls Try.prog 20 #[.slice a O.length ca, .slice b O.length cb] w fun e w' => e = .returned (.bool true) ∧ Below w.heap.size w w' := by
  obtain ⟨n, hn⟩ : ∃ n, O.length = n := ⟨_, rfl⟩
  rw [hn] at hl ⊢
  have HN : Hid _ := hn
  have HA : Hid _ := ha
  have HB : Hid _ := hb
  clear hn ha hb
  go_enter Try.func20, Try.ntmps20
  go_wp2_with fail
  go_loopw [5] (fun i wr => ∃ k : Nat, k ≤ n ∧ i = .int .i64 k ∧ Below w.heap.size w wr) (fun i _ => n - (intOf i).toNat)
  case atStart => exact ⟨0, Nat.zero_le _, rfl, Below.refl _ _⟩
  case round =>
    obtain ⟨k, hk, rfl, hbl⟩ := hrel
    by_cases hlt : k < n
    · obtain ⟨z, hz⟩ : ∃ z, O[k]? = some z := ⟨_, List.getElem?_eq_getElem (by rw [HN.out]; exact hlt)⟩
      obtain ⟨g1, rfl, q1⟩ := HA.out k z hz
      obtain ⟨g2, rfl, q2⟩ := HB.out k z hz
      have q1 := (cat hbl (lt_of_cell q1)).trans q1
      have q2 := (cat hbl (lt_of_cell q2)).trans q2
      have y1 : (0 : Int) ≤ (k : Int) := by omega
      have y2 : (k : Int) < (n : Int) := by omega
      clear hz
      go_upto_region 6 with fail
      go_quiet (fail)
      go_wp2
      go_roundw
      case rel => exact ⟨k + 1, by omega, by go_num, bel_drewN hbl _⟩
      case measure => simp [intOf]; omega
    · obtain rfl : k = n := by omega
      go_wp2
      go_ret
      exact ⟨rfl, hbl⟩

end Go.Proofs.Ytheokboggjnenaa

/-
  TermParts comes out true: the walk.
-/
namespace Go.Proofs.Ytheokboggjnenaa
open Go Go.RowKit Go.Sort

/-- Where a row's numbers lie. -/
def rowAt (w : World) (a : Option Addr) (M : List Int) : Prop := ∀ j z, M[j]? = some z → ∃ g, a = some ⟨g, 0, none⟩ ∧ w.cell? ⟨g, j, none⟩ = some (.int .i64 z)
theorem rowAt.bel {w w' : World} {a : Option Addr} {M : List Int} (h : rowAt w a M) (hb : Below w.heap.size w w') : rowAt w' a M := fun j z hz => by
  obtain ⟨g, e, q⟩ := h j z hz
  exact ⟨g, e, (cat hb (lt_of_cell q)).trans q⟩
/-- The metavariables of a term, rising. -/
def mets (t : Tm) : List Int := metR (viss (t.heads 1 0)) []
theorem mets_eq (t : Tm) (bs : List Int) (h1 : bs.Pairwise (· < ·)) (h2 : ∀ z, z ∈ bs ↔ z ∈ metI (t.heads 1 0)) : bs = mets t := by
  obtain ⟨h3, h4⟩ := metR_spec (viss (t.heads 1 0)) [] .nil
  refine rising_eq _ _ h1 (show (mets t).Pairwise (· < ·) from h3) fun z => (h2 z).trans ?_
  rw [show (z ∈ mets t ↔ z ∈ [] ∨ (2, z) ∈ viss (t.heads 1 0)) from h4 z, mem_viss]
  simp
theorem mets_length (t : Tm) : (mets t).length ≤ t.size := by
  have h1 := metR_length (viss (t.heads 1 0)) []
  have h2 := viss_length (t.heads 1 0)
  rw [t.heads_length] at h2
  unfold mets
  simp at h1
  omega
theorem holdsT_at2 {w : World} {G : Nat} {e : TypeId} {t : Tm} {x1 : Option Addr} {x2 x3 : Nat} {y1 : Option Addr} {y2 y3 : Nat} (hk : Blk w G e #[.slice x1 x2 x3, .int .i64 t.kind, .int .i64 t.idx, .slice y1 y2 y3, .slice x1 x2 x3, .int .i64 t.kind, .int .i64 t.idx, .slice y1 y2 y3])
    (hb : Holds w okT t.binds (.slice x1 x2 x3)) (hr : HoldsT w okT t.args (.slice y1 y2 y3)) : HoldsT w okT [t, t] (.slice (some ⟨G, 0, none⟩) 2 2) := by
  have hg : ∀ (i : Nat) u, [t, t][i]? = some u → i < 2 ∧ u = t := by
    intro i u hi
    match i, hi with
    | 0, hi => exact ⟨by omega, by simpa using hi.symm⟩
    | 1, hi => exact ⟨by omega, by simpa using hi.symm⟩
    | i + 2, hi => simp at hi
  refine HoldsT.mk [t, t] (some ⟨G, 0, none⟩) 2 (fun _ => .slice x1 x2 x3) (fun _ => .slice y1 y2 y3) (Nat.le_refl _) (fun h => by cases h) ?_ ?_ ?_
  · intro i u hi
    obtain ⟨hi2, rfl⟩ := hg i u hi
    match i, hi2 with
    | 0, _ => exact ⟨G, 0, rfl, trivial, hk.cell 0, hk.cell 1, hk.cell 2, hk.cell 3⟩
    | 1, _ => exact ⟨G, 0, rfl, trivial, hk.cell 4, hk.cell 5, hk.cell 6, hk.cell 7⟩
  · intro i u hi
    obtain ⟨_, rfl⟩ := hg i u hi
    exact hb
  · intro i u hi
    obtain ⟨_, rfl⟩ := hg i u hi
    exact hr
theorem holdsT_at1 {w : World} {G : Nat} {e : TypeId} {t : Tm} {x1 : Option Addr} {x2 x3 : Nat} {y1 : Option Addr} {y2 y3 : Nat} (hk : Blk w G e #[.slice x1 x2 x3, .int .i64 t.kind, .int .i64 t.idx, .slice y1 y2 y3])
    (hb : Holds w okT t.binds (.slice x1 x2 x3)) (hr : HoldsT w okT t.args (.slice y1 y2 y3)) : HoldsT w okT [t] (.slice (some ⟨G, 0, none⟩) 1 1) := by
  have hg : ∀ (i : Nat) u, [t][i]? = some u → i = 0 ∧ u = t := by
    intro i u hi
    match i, hi with
    | 0, hi => exact ⟨rfl, by simpa using hi.symm⟩
    | i + 1, hi => simp at hi
  refine HoldsT.mk [t] (some ⟨G, 0, none⟩) 1 (fun _ => .slice x1 x2 x3) (fun _ => .slice y1 y2 y3) (Nat.le_refl _) (fun h => by cases h) ?_ ?_ ?_
  · intro i u hi
    obtain ⟨rfl, rfl⟩ := hg i u hi
    exact ⟨G, 0, rfl, trivial, hk.cell 0, hk.cell 1, hk.cell 2, hk.cell 3⟩
  · intro i u hi
    obtain ⟨_, rfl⟩ := hg i u hi
    exact hb
  · intro i u hi
    obtain ⟨_, rfl⟩ := hg i u hi
    exact hr

def actP6 (N A : Nat) (y0 y1 y6 y7 y8 y9 y10 y11 y12 : Value) (u : Nat → Value) : Act :=
  { tmps := #[y0, y1, .pointer (some ⟨N, 0, none⟩), .pointer (some ⟨N + 1, 0, none⟩), u 4, .pointer (some ⟨A, 0, none⟩), y6, y7, y8, y9, y10, y11, y12, u 13, u 14, u 15, u 16, u 17, u 18, u 19, u 20, u 21, u 22, u 23, u 24, u 25, u 26, u 27, u 28, u 29, u 30, u 31, u 32, u 33, u 34, u 35, u 36, u 37, u 38, u 39, u 40, u 41, u 42, u 43, u 44, u 45, u 46, u 47, u 48, u 49, u 50, u 51, u 52, u 53, u 54, u 55, u 56, u 57, u 58, u 59, u 60, u 61, u 62, u 63, u 64, u 65, u 66, u 67, u 68, u 69, u 70], defers := [] }
set_option maxRecDepth 100000 in
theorem over_actP6 (N A : Nat) (y0 y1 y6 y7 y8 y9 y10 y11 y12 : Value) (u0 u : Nat → Value) : over (fun s => Nat.beq s 4 || (Nat.ble 13 s && Nat.ble s 70)) u (actP6 N A y0 y1 y6 y7 y8 y9 y10 y11 y12 u0) = actP6 N A y0 y1 y6 y7 y8 y9 y10 y11 y12 u := rfl
def VP6 (N : Nat) (t : Tm) (q1 q2 : Int) (x1 y1 a1 b1 : Option Addr) (x2 x3 y2 y3 a3 b3 : Nat) (s : Nat) (w : World) (v : Value) : Prop := match s with
  | 13 => v = .bool true
  | 14 => v = .bool true
  | 15 => v = tmv (.slice a1 x2 a3) t.kind t.idx (.slice b1 y2 b3)
  | 16 => v = .bool (rightTB t)
  | 17 => v = tmv (.slice x1 x2 x3) t.kind t.idx (.slice y1 y2 y3)
  | 18 => v = .bool (rightTB t)
  | 19 => v = .bool true
  | 20 => v = .bool true
  | 21 => v = .bool true
  | 22 => v = tmv (.slice a1 x2 a3) t.kind t.idx (.slice b1 y2 b3)
  | 23 => v = .int .i64 (t.size : Int)
  | 24 => v = tmv (.slice x1 x2 x3) t.kind t.idx (.slice y1 y2 y3)
  | 25 => v = .int .i64 (t.size : Int)
  | 26 => v = .bool true
  | 27 => v = .bool true
  | 28 => v = .bool true
  | 29 => v = tmv (.slice a1 x2 a3) t.kind t.idx (.slice b1 y2 b3)
  | 30 => v = .int .i64 (t.depth : Int)
  | 31 => v = tmv (.slice x1 x2 x3) t.kind t.idx (.slice y1 y2 y3)
  | 32 => v = .int .i64 (t.depth : Int)
  | 33 => v = .bool true
  | 34 => v = .bool true
  | 35 => v = .bool true
  | 36 => v = tmv (.slice a1 x2 a3) t.kind t.idx (.slice b1 y2 b3)
  | 37 => v = .int .i64 (looseI t)
  | 38 => v = tmv (.slice x1 x2 x3) t.kind t.idx (.slice y1 y2 y3)
  | 39 => v = .int .i64 (looseI t)
  | 40 => v = .bool true
  | 41 => v = .bool true
  | 42 => v = .bool true
  | 43 => v = tmv (.slice a1 x2 a3) t.kind t.idx (.slice b1 y2 b3)
  | 44 => v = tmv (.slice a1 x2 a3) t.kind t.idx (.slice b1 y2 b3)
  | 45 => ∃ g, v = .slice (some ⟨g, 0, none⟩) 2 2 ∧ Blk w g 34 #[.slice a1 x2 a3, .int .i64 t.kind, .int .i64 t.idx, .slice b1 y2 b3, .slice a1 x2 a3, .int .i64 t.kind, .int .i64 t.idx, .slice b1 y2 b3]
  | 46 => ∃ a c, v = .slice a (mets t).length c ∧ rowAt w a (mets t)
  | 47 => v = tmv (.slice x1 x2 x3) t.kind t.idx (.slice y1 y2 y3)
  | 48 => ∃ g, v = .slice (some ⟨g, 0, none⟩) 1 1 ∧ Blk w g 27 #[.slice x1 x2 x3, .int .i64 t.kind, .int .i64 t.idx, .slice y1 y2 y3]
  | 49 => ∃ a c, v = .slice a (mets t).length c ∧ rowAt w a (mets t)
  | 50 => v = .bool true
  | 51 => v = .bool true
  | 52 => v = .bool true
  | 53 => v = tmv (.slice a1 x2 a3) t.kind t.idx (.slice b1 y2 b3)
  | 54 => v = .pointer (some ⟨N + 1, 0, none⟩)
  | 55 => v = .int .i64 q1
  | 56 => v = .pointer (some ⟨N + 1, 1, none⟩)
  | 57 => v = .int .i64 q2
  | 58 => v = hv q1 q2
  | 59 => v = .int .i64 (((viss (t.heads 1 0)).count (q1, q2) : Nat) : Int)
  | 60 => v = tmv (.slice x1 x2 x3) t.kind t.idx (.slice y1 y2 y3)
  | 61 => v = hv q1 q2
  | 62 => v = .int .i64 (((viss (t.heads 1 0)).count (q1, q2) : Nat) : Int)
  | 63 => v = .bool true
  | 64 => v = .bool true
  | 65 => v = .bool true
  | 66 => v = tmv (.slice a1 x2 a3) t.kind t.idx (.slice b1 y2 b3)
  | 67 => ∃ p1 pn p2 r1 rn r2, v = tmv (.slice p1 pn p2) t.kind t.idx (.slice r1 rn r2) ∧ Holds w okT t.binds (.slice p1 pn p2) ∧ HoldsT w okT t.args (.slice r1 rn r2)
  | 68 => v = tmv (.slice x1 x2 x3) t.kind t.idx (.slice y1 y2 y3)
  | 69 => v = .bool true
  | 70 => v = .bool true
  | 4 => v = .bool true
  | _ => True
theorem VP6.mono {N : Nat} {t : Tm} {q1 q2 : Int} {x1 y1 a1 b1 : Option Addr} {x2 x3 y2 y3 a3 b3 : Nat} {s : Nat} {w w' : World} {v : Value} (h : VP6 N t q1 q2 x1 y1 a1 b1 x2 x3 y2 y3 a3 b3 s w v) (hb : Below w.heap.size w w') : VP6 N t q1 q2 x1 y1 a1 b1 x2 x3 y2 y3 a3 b3 s w' v := by
  revert h
  unfold VP6
  split <;> intro h
  · exact h
  · exact h
  · exact h
  · exact h
  · exact h
  · exact h
  · exact h
  · exact h
  · exact h
  · exact h
  · exact h
  · exact h
  · exact h
  · exact h
  · exact h
  · exact h
  · exact h
  · exact h
  · exact h
  · exact h
  · exact h
  · exact h
  · exact h
  · exact h
  · exact h
  · exact h
  · exact h
  · exact h
  · exact h
  · exact h
  · exact h
  · exact h
  · obtain ⟨g, e, h⟩ := h; exact ⟨g, e, h.below hb h.lt⟩
  · obtain ⟨a, c, e, h⟩ := h; exact ⟨a, c, e, h.bel hb⟩
  · exact h
  · obtain ⟨g, e, h⟩ := h; exact ⟨g, e, h.below hb h.lt⟩
  · obtain ⟨a, c, e, h⟩ := h; exact ⟨a, c, e, h.bel hb⟩
  · exact h
  · exact h
  · exact h
  · exact h
  · exact h
  · exact h
  · exact h
  · exact h
  · exact h
  · exact h
  · exact h
  · exact h
  · exact h
  · exact h
  · exact h
  · exact h
  · exact h
  · obtain ⟨p1, pn, p2, r1, rn, r2, e, h1, h2⟩ := h; exact ⟨p1, pn, p2, r1, rn, r2, e, h1.bel hb, h2.bel hb⟩
  · exact h
  · exact h
  · exact h
  · exact h
  · trivial

set_option maxRecDepth 100000 in
set_option maxHeartbeats 8000000 in
theorem Parts_calls (t : Tm) (q1 q2 : Int) (sb sr : Value) (w : World) (hb : Holds w okT t.binds sb) (hr : HoldsT w okT t.args sr) (hrg : t.rng) :
    Calls Try.prog 3 #[tmv sb t.kind t.idx sr, hv q1 q2] w fun e w' => e = .returned (.bool true) ∧ Below w.heap.size w w' := by
  obtain ⟨x1, x3, rfl, _⟩ := hb.shape
  obtain ⟨y1, y3, rfl, _⟩ := hr.shape
  obtain ⟨x2, hx2⟩ : ∃ n, t.binds.length = n := ⟨_, rfl⟩
  obtain ⟨y2, hy2⟩ : ∃ n, t.args.length = n := ⟨_, rfl⟩
  rw [hx2] at hb ⊢
  rw [hy2] at hr ⊢
  obtain ⟨N, hN⟩ : ∃ N, w.heap.size = N := ⟨_, rfl⟩
  rw [hN]
  obtain ⟨W0, hW0⟩ : ∃ W0, (w.alloc (.cells #[.slice x1 x2 x3, .int .i64 t.kind, .int .i64 t.idx, .slice y1 y2 y3] 27)).alloc (.cells #[.int .i64 q1, .int .i64 q2] 24) = W0 := ⟨_, rfl⟩
  have b0 : Blk W0 N 27 #[.slice x1 x2 x3, .int .i64 t.kind, .int .i64 t.idx, .slice y1 y2 y3] := by rw [← hW0]; exact (Blk.new' w N 27 _ hN).alloc _
  have bh : Blk W0 (N + 1) 24 #[.int .i64 q1, .int .i64 q2] := by rw [← hW0]; exact Blk.new' _ (N + 1) 24 _ (by simp [hN])
  have hz0 : W0.heap.size = N + 2 := by rw [← hW0]; simp [hN]
  have bl0 : Below N w W0 := by rw [← hW0]; exact ((Below.refl N w).alloc (by omega) _).alloc (by simp; omega) _
  have hb0 := hb.bel (hN ▸ bl0)
  have hr0 := hr.bel (hN ▸ bl0)
  obtain ⟨r1, hr1⟩ : ∃ r, fewTB 150 70 t = r := ⟨_, rfl⟩
  have hF1 := holdsT_one W0 (N + 2) hz0 t 27 x1 x2 x3 y1 y2 y3 hb0 hr0
  obtain ⟨W1, hW1⟩ : ∃ W1, W0.alloc (.cells #[.slice x1 x2 x3, .int .i64 t.kind, .int .i64 t.idx, .slice y1 y2 y3] 27) = W1 := ⟨_, rfl⟩
  rw [hW1] at hF1
  have hfl := FewL_calls [t] okT _ W1 hF1 (by simp)
  rw [show [t].all (fewTB 150 70) = r1 by rw [← hr1]; simp] at hfl
  have bb1 : Below W0.heap.size W0 W1 := by rw [← hW1]; exact (Below.refl _ _).alloc (Nat.le_refl _) _
  have HR1 : Hid _ := hr1
  have HW : Hid _ := hW0
  have HW1 : Hid _ := hW1
  have c0 := b0.cell 0
  have c1 := b0.cell 1
  have c2 := b0.cell 2
  have c3 := b0.cell 3
  have hzN : N ≤ W0.heap.size := by omega
  clear hW0 hW1 hr1 hF1 hb hr
  go_enter Try.func3, Try.ntmps3
  go_upto_region 1 with fail
  rw [HW.out]
  clear HW
  go_wp2_with fail
  rw [HW1.out]
  clear HW1
  refine hfl.mono ?_
  rintro e w1 ⟨rfl, hb1⟩
  have hc1 : Cur W0 w1 := (show Cur W0 W1 from bb1).then hb1
  clear hfl hb1 bb1 c0 c1 c2 c3
  cases r1 with
  | false =>
    go_wp2_with fail
    refine (known_calls _).mono ?_
    rintro e w4 ⟨rfl, hb4⟩
    go_wp2
    go_ret
    exact ⟨rfl, bl0.trans (Below.mono (hc1.then hb4) hzN)⟩
  | true =>
  have htot := total_of_few HR1.out
  clear HR1
  have k0 := b0.below hc1 b0.lt
  have kh0 := bh.below hc1 bh.lt
  have hb1 := hc1.holds hb0
  have hr1 := hr0.bel hc1
  have bl1 : Below N w w1 := bl0.trans (Below.mono hc1 hzN)
  clear b0 bh bl0 hb0 hr0 hc1 hz0 hzN
  have hT := ToT_calls t okT _ _ w1 hb1 hr1 (by omega)
  have c0 := k0.cell 0
  have c1 := k0.cell 1
  have c2 := k0.cell 2
  have c3 := k0.cell 3
  go_upto_region 3 with fail
  go_wp2_with fail
  refine hT.mono ?_
  rintro e w2 ⟨vb2, vr2, rfl, h2b, h2r, hb2⟩
  obtain ⟨a1, a3, rfl, _⟩ := h2b.shape
  obtain ⟨b1, b3, rfl, _⟩ := h2r.shape
  rw [hx2] at h2b ⊢
  rw [hy2] at h2r ⊢
  obtain ⟨A, hA⟩ : ∃ A, w2.heap.size = A := ⟨_, rfl⟩
  obtain ⟨w4, hw4⟩ : ∃ w4, w2.alloc (.cells #[.slice a1 x2 a3, .int .i64 t.kind, .int .i64 t.idx, .slice b1 y2 b3] 34) = w4 := ⟨_, rfl⟩
  have kA : Blk w4 A 34 #[.slice a1 x2 a3, .int .i64 t.kind, .int .i64 t.idx, .slice b1 y2 b3] := by rw [← hw4]; exact Blk.new' w2 A 34 _ hA
  have hc4 : Cur w1 w4 := by rw [← hw4]; exact (show Cur w1 w2 from hb2).alloc _
  have hxb : Holds w4 okT t.binds (.slice a1 x2 a3) := by rw [← hw4]; exact h2b.t.alloc _
  have hxr : HoldsT w4 okT t.args (.slice b1 y2 b3) := by rw [← hw4]; exact (h2r.mono fun _ _ _ => trivial).alloc _
  have HW4 : Hid _ := hw4
  have k4 := k0.below hc4 k0.lt
  have kh := kh0.below hc4 kh0.lt
  have hb4 := hc4.holds hb1
  have hr4 := hr1.bel hc4
  have bl4 : Below N w w4 := bl1.trans (Below.mono hc4 (by have := bl1.size; omega))
  have hz4 : N ≤ w4.heap.size := by have := bl4.size; omega
  have hst := t.size_le_total
  have hml := mets_length t
  clear hT hb2 h2b h2r hw4 c0 c1 c2 c3 k0 kh0 hb1 hr1 bl1 hc4
  go_upto_region 4 with fail
  rw [HW4.out]
  clear HW4
  go_wp2_with fail
  rename_i K Q' hKs
  refine (wpIn_wide (n := 9)).1 ?_
  show Code.wpIn Fence.wide 9 Try.prog (Code.region 4 _ true) _ (actP6 N A (tmv (Value.slice x1 x2 x3) t.kind t.idx (Value.slice y1 y2 y3)) (hv q1 q2) (Value.agg #[Value.slice x1 x2 x3, Value.int IntKind.i64 t.kind, Value.int IntKind.i64 t.idx, Value.slice y1 y2 y3]) (Value.slice (some { block := N + 2, off := 0 }) 1 1) (Value.bool true) (Value.bool false) (undef) (Value.agg #[Value.slice x1 x2 x3, Value.int IntKind.i64 t.kind, Value.int IntKind.i64 t.idx, Value.slice y1 y2 y3]) (tmv (Value.slice a1 x2 a3) t.kind t.idx (Value.slice b1 y2 b3)) (fun | 4 => Value.bool false | 13 => undef | 14 => undef | 15 => undef | 16 => undef | 17 => undef | 18 => undef | 19 => undef | 20 => undef | 21 => undef | 22 => undef | 23 => undef | 24 => undef | 25 => undef | 26 => undef | 27 => undef | 28 => undef | 29 => undef | 30 => undef | 31 => undef | 32 => undef | 33 => undef | 34 => undef | 35 => undef | 36 => undef | 37 => undef | 38 => undef | 39 => undef | 40 => undef | 41 => undef | 42 => undef | 43 => undef | 44 => undef | 45 => undef | 46 => undef | 47 => undef | 48 => undef | 49 => undef | 50 => undef | 51 => undef | 52 => undef | 53 => undef | 54 => undef | 55 => undef | 56 => undef | 57 => undef | 58 => undef | 59 => undef | 60 => undef | 61 => undef | 62 => undef | 63 => undef | 64 => undef | 65 => undef | 66 => undef | 67 => undef | 68 => undef | 69 => undef | 70 => undef | _ => undef)) w4
  refine region_spine [(0, 0), (1, 0), (2, 0), (3, 0), (4, 0), (5, 0), (6, 0), (7, 0), (8, 0), (9, 0), (10, 0), (11, 0), (12, 0), (13, 0), (14, 0), (15, 0), (16, 0), (17, 0), (18, 0), (19, 0), (20, 0), (21, 0), (22, 0), (23, 0), (24, 0), (25, 0), (26, 0), (27, 0), (28, 0), (29, 0), (30, 0), (31, 0), (32, 0), (33, 0), (34, 0), (35, 0), (36, 0), (37, 0), (38, 0), (39, 0), (40, 0), (41, 0), (42, 0), (43, 0), (44, 0), (45, 0), (46, 0), (47, 0), (48, 0), (49, 0), (50, 0), (51, 0), (52, 0), (53, 0), (54, 0), (55, 0), (56, 0), (57, 0), (58, 0)] [] (fun s => Nat.beq s 4 || (Nat.ble 13 s && Nat.ble s 70)) (fun _ => VP6 N t q1 q2 x1 y1 a1 b1 x2 x3 y2 y3 a3 b3) (fun _ w => Below (w4).heap.size w4 w) (by kernel_rfl) (by kernel_rfl) (by kernel_rfl) (by kernel_rfl) (fun _ _ _ _ _ h hb => h.mono hb) (fun _ _ _ h hb => h.trans (hb.mono h.size)) ((Below.refl _ _).drew) ⟨?_, ?_, ?_, ?_, ?_, ?_, ?_, ?_, ?_, ?_, ?_, ?_, ?_, ?_, ?_, ?_, ?_, ?_, ?_, ?_, ?_, ?_, ?_, ?_, ?_, ?_, ?_, ?_, ?_, ?_, ?_, ?_, ?_, ?_, ?_, ?_, ?_, ?_, ?_, ?_, ?_, ?_, ?_, ?_, ?_, ?_, ?_, ?_, ?_, ?_, ?_, ?_, ?_, ?_, ?_, ?_, ?_, ?_, ?_, trivial⟩ trivial ?_
  · intro o ho p hp _ z w hB hk K' hK
    cases ho
    have hcall := known_calls w
    have hK3 := fun (w2 : World) (hb2 : Below w.heap.size w w2) => hK (.bool true) w2 (fun s hs => by cases hs; exact rfl) hb2
    simp only [over_actP6] at hK3 ⊢
    clear hK hk
    unfold actP6 at hK3 ⊢
    refine want_plain rfl ?_
    go_simp
    refine ⟨trivial, (callsIn_wide.2 hcall).mono ?_⟩
    rintro e w2 ⟨rfl, hb2⟩
    exact hK3 w2 hb2
  · intro o ho p hp _ z w hB hk K' hK
    cases ho
    have e13 : z 13 = .bool true := hk 13 (by decide +kernel) rfl
    have hK3 := hK (.bool true) w (fun s hs => by cases hs; exact rfl) (Below.refl _ _)
    simp only [over_actP6] at hK3 ⊢
    clear hK hk
    unfold actP6 at hK3 ⊢
    simp only [e13] at hK3 ⊢
    refine want_plain rfl ?_
    go_simp
    exact hK3
  · intro o ho p hp _ z w hB hk K' hK
    cases ho
    have e14 : z 14 = .bool true := hk 14 (by decide +kernel) rfl
    have u0 := (cat hB kA.lt).trans (kA.cell 0)
    have u1 := (cat hB kA.lt).trans (kA.cell 1)
    have u2 := (cat hB kA.lt).trans (kA.cell 2)
    have u3 := (cat hB kA.lt).trans (kA.cell 3)
    have hK3 := hK (tmv (.slice a1 x2 a3) t.kind t.idx (.slice b1 y2 b3)) w (fun s hs => by cases hs; exact rfl) (Below.refl _ _)
    simp only [over_actP6] at hK3 ⊢
    clear hK hk
    unfold actP6 at hK3 ⊢
    simp only [e14] at hK3 ⊢
    refine want_yes rfl (by rfl) ?_
    go_simp
    exact hK3
  · intro o ho p hp _ z w hB hk K' hK
    cases ho
    have e15 : z 15 = tmv (.slice a1 x2 a3) t.kind t.idx (.slice b1 y2 b3) := hk 15 (by decide +kernel) rfl
    have e14 : z 14 = .bool true := hk 14 (by decide +kernel) rfl
    have hcall := RightH_calls t okT _ _ w (hxb.bel hB) (hxr.bel hB) (by omega)
    have hK3 := fun (w2 : World) (hb2 : Below w.heap.size w w2) => hK (.bool (rightTB t)) w2 (fun s hs => by cases hs; exact rfl) hb2
    simp only [over_actP6] at hK3 ⊢
    clear hK hk
    unfold actP6 at hK3 ⊢
    simp only [e15, e14] at hK3 ⊢
    refine want_yes rfl (by rfl) ?_
    go_simp
    refine ⟨trivial, (callsIn_wide.2 hcall).mono ?_⟩
    rintro e w2 ⟨rfl, hb2⟩
    exact hK3 w2 hb2
  · intro o ho p hp _ z w hB hk K' hK
    cases ho
    have e14 : z 14 = .bool true := hk 14 (by decide +kernel) rfl
    have u0 := (cat hB k4.lt).trans (k4.cell 0)
    have u1 := (cat hB k4.lt).trans (k4.cell 1)
    have u2 := (cat hB k4.lt).trans (k4.cell 2)
    have u3 := (cat hB k4.lt).trans (k4.cell 3)
    have hK3 := hK (tmv (.slice x1 x2 x3) t.kind t.idx (.slice y1 y2 y3)) w (fun s hs => by cases hs; exact rfl) (Below.refl _ _)
    simp only [over_actP6] at hK3 ⊢
    clear hK hk
    unfold actP6 at hK3 ⊢
    simp only [e14] at hK3 ⊢
    refine want_yes rfl (by rfl) ?_
    go_simp
    exact hK3
  · intro o ho p hp _ z w hB hk K' hK
    cases ho
    have e17 : z 17 = tmv (.slice x1 x2 x3) t.kind t.idx (.slice y1 y2 y3) := hk 17 (by decide +kernel) rfl
    have e14 : z 14 = .bool true := hk 14 (by decide +kernel) rfl
    have hcall := refRightT_calls t okT _ _ w (hb4.bel hB) (hr4.bel hB) (by omega)
    have hK3 := fun (w2 : World) (hb2 : Below w.heap.size w w2) => hK (.bool (rightTB t)) w2 (fun s hs => by cases hs; exact rfl) hb2
    simp only [over_actP6] at hK3 ⊢
    clear hK hk
    unfold actP6 at hK3 ⊢
    simp only [e17, e14] at hK3 ⊢
    refine want_yes rfl (by rfl) ?_
    go_simp
    refine ⟨trivial, (callsIn_wide.2 hcall).mono ?_⟩
    rintro e w2 ⟨rfl, hb2⟩
    exact hK3 w2 hb2
  · intro o ho p hp _ z w hB hk K' hK
    cases ho
    have e16 : z 16 = .bool (rightTB t) := hk 16 (by decide +kernel) rfl
    have e18 : z 18 = .bool (rightTB t) := hk 18 (by decide +kernel) rfl
    have e14 : z 14 = .bool true := hk 14 (by decide +kernel) rfl
    have hK3 := hK (.bool true) w (fun s hs => by cases hs; exact rfl) (Below.refl _ _)
    simp only [over_actP6] at hK3 ⊢
    clear hK hk
    unfold actP6 at hK3 ⊢
    simp only [e16, e18, e14] at hK3 ⊢
    refine want_yes rfl (by rfl) ?_
    go_simp
    exact hK3
  · intro o ho p hp _ z w hB hk K' hK
    cases ho
    have e14 : z 14 = .bool true := hk 14 (by decide +kernel) rfl
    have e19 : z 19 = .bool true := hk 19 (by decide +kernel) rfl
    have hK3 := hK (.bool true) w (fun s hs => by cases hs; exact rfl) (Below.refl _ _)
    simp only [over_actP6] at hK3 ⊢
    clear hK hk
    unfold actP6 at hK3 ⊢
    simp only [e14, e19] at hK3 ⊢
    refine want_plain rfl ?_
    go_simp
    exact hK3
  · intro o ho p hp _ z w hB hk K' hK
    cases ho
    have e20 : z 20 = .bool true := hk 20 (by decide +kernel) rfl
    have hK3 := hK (.bool true) w (fun s hs => by cases hs; exact rfl) (Below.refl _ _)
    simp only [over_actP6] at hK3 ⊢
    clear hK hk
    unfold actP6 at hK3 ⊢
    simp only [e20] at hK3 ⊢
    refine want_plain rfl ?_
    go_simp
    exact hK3
  · intro o ho p hp _ z w hB hk K' hK
    cases ho
    have e21 : z 21 = .bool true := hk 21 (by decide +kernel) rfl
    have u0 := (cat hB kA.lt).trans (kA.cell 0)
    have u1 := (cat hB kA.lt).trans (kA.cell 1)
    have u2 := (cat hB kA.lt).trans (kA.cell 2)
    have u3 := (cat hB kA.lt).trans (kA.cell 3)
    have hK3 := hK (tmv (.slice a1 x2 a3) t.kind t.idx (.slice b1 y2 b3)) w (fun s hs => by cases hs; exact rfl) (Below.refl _ _)
    simp only [over_actP6] at hK3 ⊢
    clear hK hk
    unfold actP6 at hK3 ⊢
    simp only [e21] at hK3 ⊢
    refine want_yes rfl (by rfl) ?_
    go_simp
    exact hK3
  · intro o ho p hp _ z w hB hk K' hK
    cases ho
    have e22 : z 22 = tmv (.slice a1 x2 a3) t.kind t.idx (.slice b1 y2 b3) := hk 22 (by decide +kernel) rfl
    have e21 : z 21 = .bool true := hk 21 (by decide +kernel) rfl
    have hcall := SizeH_calls t okT _ _ w (hxb.bel hB) (hxr.bel hB) (by omega)
    have hK3 := fun (w2 : World) (hb2 : Below w.heap.size w w2) => hK (.int .i64 (t.size : Int)) w2 (fun s hs => by cases hs; exact rfl) hb2
    simp only [over_actP6] at hK3 ⊢
    clear hK hk
    unfold actP6 at hK3 ⊢
    simp only [e22, e21] at hK3 ⊢
    refine want_yes rfl (by rfl) ?_
    go_simp
    refine ⟨trivial, (callsIn_wide.2 hcall).mono ?_⟩
    rintro e w2 ⟨rfl, hb2⟩
    exact hK3 w2 hb2
  · intro o ho p hp _ z w hB hk K' hK
    cases ho
    have e21 : z 21 = .bool true := hk 21 (by decide +kernel) rfl
    have u0 := (cat hB k4.lt).trans (k4.cell 0)
    have u1 := (cat hB k4.lt).trans (k4.cell 1)
    have u2 := (cat hB k4.lt).trans (k4.cell 2)
    have u3 := (cat hB k4.lt).trans (k4.cell 3)
    have hK3 := hK (tmv (.slice x1 x2 x3) t.kind t.idx (.slice y1 y2 y3)) w (fun s hs => by cases hs; exact rfl) (Below.refl _ _)
    simp only [over_actP6] at hK3 ⊢
    clear hK hk
    unfold actP6 at hK3 ⊢
    simp only [e21] at hK3 ⊢
    refine want_yes rfl (by rfl) ?_
    go_simp
    exact hK3
  · intro o ho p hp _ z w hB hk K' hK
    cases ho
    have e24 : z 24 = tmv (.slice x1 x2 x3) t.kind t.idx (.slice y1 y2 y3) := hk 24 (by decide +kernel) rfl
    have e21 : z 21 = .bool true := hk 21 (by decide +kernel) rfl
    have hcall := refSizeT_calls t okT _ _ w (hb4.bel hB) (hr4.bel hB) (by omega)
    have hK3 := fun (w2 : World) (hb2 : Below w.heap.size w w2) => hK (.int .i64 (t.size : Int)) w2 (fun s hs => by cases hs; exact rfl) hb2
    simp only [over_actP6] at hK3 ⊢
    clear hK hk
    unfold actP6 at hK3 ⊢
    simp only [e24, e21] at hK3 ⊢
    refine want_yes rfl (by rfl) ?_
    go_simp
    refine ⟨trivial, (callsIn_wide.2 hcall).mono ?_⟩
    rintro e w2 ⟨rfl, hb2⟩
    exact hK3 w2 hb2
  · intro o ho p hp _ z w hB hk K' hK
    cases ho
    have e23 : z 23 = .int .i64 (t.size : Int) := hk 23 (by decide +kernel) rfl
    have e25 : z 25 = .int .i64 (t.size : Int) := hk 25 (by decide +kernel) rfl
    have e21 : z 21 = .bool true := hk 21 (by decide +kernel) rfl
    have hK3 := hK (.bool true) w (fun s hs => by cases hs; exact rfl) (Below.refl _ _)
    simp only [over_actP6] at hK3 ⊢
    clear hK hk
    unfold actP6 at hK3 ⊢
    simp only [e23, e25, e21] at hK3 ⊢
    refine want_yes rfl (by rfl) ?_
    go_simp
    exact hK3
  · intro o ho p hp _ z w hB hk K' hK
    cases ho
    have e21 : z 21 = .bool true := hk 21 (by decide +kernel) rfl
    have e26 : z 26 = .bool true := hk 26 (by decide +kernel) rfl
    have hK3 := hK (.bool true) w (fun s hs => by cases hs; exact rfl) (Below.refl _ _)
    simp only [over_actP6] at hK3 ⊢
    clear hK hk
    unfold actP6 at hK3 ⊢
    simp only [e21, e26] at hK3 ⊢
    refine want_plain rfl ?_
    go_simp
    exact hK3
  · intro o ho p hp _ z w hB hk K' hK
    cases ho
    have e27 : z 27 = .bool true := hk 27 (by decide +kernel) rfl
    have hK3 := hK (.bool true) w (fun s hs => by cases hs; exact rfl) (Below.refl _ _)
    simp only [over_actP6] at hK3 ⊢
    clear hK hk
    unfold actP6 at hK3 ⊢
    simp only [e27] at hK3 ⊢
    refine want_plain rfl ?_
    go_simp
    exact hK3
  · intro o ho p hp _ z w hB hk K' hK
    cases ho
    have e28 : z 28 = .bool true := hk 28 (by decide +kernel) rfl
    have u0 := (cat hB kA.lt).trans (kA.cell 0)
    have u1 := (cat hB kA.lt).trans (kA.cell 1)
    have u2 := (cat hB kA.lt).trans (kA.cell 2)
    have u3 := (cat hB kA.lt).trans (kA.cell 3)
    have hK3 := hK (tmv (.slice a1 x2 a3) t.kind t.idx (.slice b1 y2 b3)) w (fun s hs => by cases hs; exact rfl) (Below.refl _ _)
    simp only [over_actP6] at hK3 ⊢
    clear hK hk
    unfold actP6 at hK3 ⊢
    simp only [e28] at hK3 ⊢
    refine want_yes rfl (by rfl) ?_
    go_simp
    exact hK3
  · intro o ho p hp _ z w hB hk K' hK
    cases ho
    have e29 : z 29 = tmv (.slice a1 x2 a3) t.kind t.idx (.slice b1 y2 b3) := hk 29 (by decide +kernel) rfl
    have e28 : z 28 = .bool true := hk 28 (by decide +kernel) rfl
    have hcall := DepthH_calls t okT _ _ w (hxb.bel hB) (hxr.bel hB) (by omega)
    have hK3 := fun (w2 : World) (hb2 : Below w.heap.size w w2) => hK (.int .i64 (t.depth : Int)) w2 (fun s hs => by cases hs; exact rfl) hb2
    simp only [over_actP6] at hK3 ⊢
    clear hK hk
    unfold actP6 at hK3 ⊢
    simp only [e29, e28] at hK3 ⊢
    refine want_yes rfl (by rfl) ?_
    go_simp
    refine ⟨trivial, (callsIn_wide.2 hcall).mono ?_⟩
    rintro e w2 ⟨rfl, hb2⟩
    exact hK3 w2 hb2
  · intro o ho p hp _ z w hB hk K' hK
    cases ho
    have e28 : z 28 = .bool true := hk 28 (by decide +kernel) rfl
    have u0 := (cat hB k4.lt).trans (k4.cell 0)
    have u1 := (cat hB k4.lt).trans (k4.cell 1)
    have u2 := (cat hB k4.lt).trans (k4.cell 2)
    have u3 := (cat hB k4.lt).trans (k4.cell 3)
    have hK3 := hK (tmv (.slice x1 x2 x3) t.kind t.idx (.slice y1 y2 y3)) w (fun s hs => by cases hs; exact rfl) (Below.refl _ _)
    simp only [over_actP6] at hK3 ⊢
    clear hK hk
    unfold actP6 at hK3 ⊢
    simp only [e28] at hK3 ⊢
    refine want_yes rfl (by rfl) ?_
    go_simp
    exact hK3
  · intro o ho p hp _ z w hB hk K' hK
    cases ho
    have e31 : z 31 = tmv (.slice x1 x2 x3) t.kind t.idx (.slice y1 y2 y3) := hk 31 (by decide +kernel) rfl
    have e28 : z 28 = .bool true := hk 28 (by decide +kernel) rfl
    have hcall := refDepthT_calls t okT _ _ w (hb4.bel hB) (hr4.bel hB) (by omega)
    have hK3 := fun (w2 : World) (hb2 : Below w.heap.size w w2) => hK (.int .i64 (t.depth : Int)) w2 (fun s hs => by cases hs; exact rfl) hb2
    simp only [over_actP6] at hK3 ⊢
    clear hK hk
    unfold actP6 at hK3 ⊢
    simp only [e31, e28] at hK3 ⊢
    refine want_yes rfl (by rfl) ?_
    go_simp
    refine ⟨trivial, (callsIn_wide.2 hcall).mono ?_⟩
    rintro e w2 ⟨rfl, hb2⟩
    exact hK3 w2 hb2
  · intro o ho p hp _ z w hB hk K' hK
    cases ho
    have e30 : z 30 = .int .i64 (t.depth : Int) := hk 30 (by decide +kernel) rfl
    have e32 : z 32 = .int .i64 (t.depth : Int) := hk 32 (by decide +kernel) rfl
    have e28 : z 28 = .bool true := hk 28 (by decide +kernel) rfl
    have hK3 := hK (.bool true) w (fun s hs => by cases hs; exact rfl) (Below.refl _ _)
    simp only [over_actP6] at hK3 ⊢
    clear hK hk
    unfold actP6 at hK3 ⊢
    simp only [e30, e32, e28] at hK3 ⊢
    refine want_yes rfl (by rfl) ?_
    go_simp
    exact hK3
  · intro o ho p hp _ z w hB hk K' hK
    cases ho
    have e28 : z 28 = .bool true := hk 28 (by decide +kernel) rfl
    have e33 : z 33 = .bool true := hk 33 (by decide +kernel) rfl
    have hK3 := hK (.bool true) w (fun s hs => by cases hs; exact rfl) (Below.refl _ _)
    simp only [over_actP6] at hK3 ⊢
    clear hK hk
    unfold actP6 at hK3 ⊢
    simp only [e28, e33] at hK3 ⊢
    refine want_plain rfl ?_
    go_simp
    exact hK3
  · intro o ho p hp _ z w hB hk K' hK
    cases ho
    have e34 : z 34 = .bool true := hk 34 (by decide +kernel) rfl
    have hK3 := hK (.bool true) w (fun s hs => by cases hs; exact rfl) (Below.refl _ _)
    simp only [over_actP6] at hK3 ⊢
    clear hK hk
    unfold actP6 at hK3 ⊢
    simp only [e34] at hK3 ⊢
    refine want_plain rfl ?_
    go_simp
    exact hK3
  · intro o ho p hp _ z w hB hk K' hK
    cases ho
    have e35 : z 35 = .bool true := hk 35 (by decide +kernel) rfl
    have u0 := (cat hB kA.lt).trans (kA.cell 0)
    have u1 := (cat hB kA.lt).trans (kA.cell 1)
    have u2 := (cat hB kA.lt).trans (kA.cell 2)
    have u3 := (cat hB kA.lt).trans (kA.cell 3)
    have hK3 := hK (tmv (.slice a1 x2 a3) t.kind t.idx (.slice b1 y2 b3)) w (fun s hs => by cases hs; exact rfl) (Below.refl _ _)
    simp only [over_actP6] at hK3 ⊢
    clear hK hk
    unfold actP6 at hK3 ⊢
    simp only [e35] at hK3 ⊢
    refine want_yes rfl (by rfl) ?_
    go_simp
    exact hK3
  · intro o ho p hp _ z w hB hk K' hK
    cases ho
    have e36 : z 36 = tmv (.slice a1 x2 a3) t.kind t.idx (.slice b1 y2 b3) := hk 36 (by decide +kernel) rfl
    have e35 : z 35 = .bool true := hk 35 (by decide +kernel) rfl
    have hcall := LooseH_calls t okT _ _ w (hxb.bel hB) (hxr.bel hB) (by omega) hrg
    have hK3 := fun (w2 : World) (hb2 : Below w.heap.size w w2) => hK (.int .i64 (looseI t)) w2 (fun s hs => by cases hs; exact rfl) hb2
    simp only [over_actP6] at hK3 ⊢
    clear hK hk
    unfold actP6 at hK3 ⊢
    simp only [e36, e35] at hK3 ⊢
    refine want_yes rfl (by rfl) ?_
    go_simp
    refine ⟨trivial, (callsIn_wide.2 hcall).mono ?_⟩
    rintro e w2 ⟨rfl, hb2⟩
    exact hK3 w2 hb2
  · intro o ho p hp _ z w hB hk K' hK
    cases ho
    have e35 : z 35 = .bool true := hk 35 (by decide +kernel) rfl
    have u0 := (cat hB k4.lt).trans (k4.cell 0)
    have u1 := (cat hB k4.lt).trans (k4.cell 1)
    have u2 := (cat hB k4.lt).trans (k4.cell 2)
    have u3 := (cat hB k4.lt).trans (k4.cell 3)
    have hK3 := hK (tmv (.slice x1 x2 x3) t.kind t.idx (.slice y1 y2 y3)) w (fun s hs => by cases hs; exact rfl) (Below.refl _ _)
    simp only [over_actP6] at hK3 ⊢
    clear hK hk
    unfold actP6 at hK3 ⊢
    simp only [e35] at hK3 ⊢
    refine want_yes rfl (by rfl) ?_
    go_simp
    exact hK3
  · intro o ho p hp _ z w hB hk K' hK
    cases ho
    have e38 : z 38 = tmv (.slice x1 x2 x3) t.kind t.idx (.slice y1 y2 y3) := hk 38 (by decide +kernel) rfl
    have e35 : z 35 = .bool true := hk 35 (by decide +kernel) rfl
    have hcall := refLooseT_calls t okT _ _ w (hb4.bel hB) (hr4.bel hB) (by omega) hrg
    have hK3 := fun (w2 : World) (hb2 : Below w.heap.size w w2) => hK (.int .i64 (looseI t)) w2 (fun s hs => by cases hs; exact rfl) hb2
    simp only [over_actP6] at hK3 ⊢
    clear hK hk
    unfold actP6 at hK3 ⊢
    simp only [e38, e35] at hK3 ⊢
    refine want_yes rfl (by rfl) ?_
    go_simp
    refine ⟨trivial, (callsIn_wide.2 hcall).mono ?_⟩
    rintro e w2 ⟨rfl, hb2⟩
    exact hK3 w2 hb2
  · intro o ho p hp _ z w hB hk K' hK
    cases ho
    have e37 : z 37 = .int .i64 (looseI t) := hk 37 (by decide +kernel) rfl
    have e39 : z 39 = .int .i64 (looseI t) := hk 39 (by decide +kernel) rfl
    have e35 : z 35 = .bool true := hk 35 (by decide +kernel) rfl
    have hK3 := hK (.bool true) w (fun s hs => by cases hs; exact rfl) (Below.refl _ _)
    simp only [over_actP6] at hK3 ⊢
    clear hK hk
    unfold actP6 at hK3 ⊢
    simp only [e37, e39, e35] at hK3 ⊢
    refine want_yes rfl (by rfl) ?_
    go_simp
    exact hK3
  · intro o ho p hp _ z w hB hk K' hK
    cases ho
    have e35 : z 35 = .bool true := hk 35 (by decide +kernel) rfl
    have e40 : z 40 = .bool true := hk 40 (by decide +kernel) rfl
    have hK3 := hK (.bool true) w (fun s hs => by cases hs; exact rfl) (Below.refl _ _)
    simp only [over_actP6] at hK3 ⊢
    clear hK hk
    unfold actP6 at hK3 ⊢
    simp only [e35, e40] at hK3 ⊢
    refine want_plain rfl ?_
    go_simp
    exact hK3
  · intro o ho p hp _ z w hB hk K' hK
    cases ho
    have e41 : z 41 = .bool true := hk 41 (by decide +kernel) rfl
    have hK3 := hK (.bool true) w (fun s hs => by cases hs; exact rfl) (Below.refl _ _)
    simp only [over_actP6] at hK3 ⊢
    clear hK hk
    unfold actP6 at hK3 ⊢
    simp only [e41] at hK3 ⊢
    refine want_plain rfl ?_
    go_simp
    exact hK3
  · intro o ho p hp _ z w hB hk K' hK
    cases ho
    have e42 : z 42 = .bool true := hk 42 (by decide +kernel) rfl
    have u0 := (cat hB kA.lt).trans (kA.cell 0)
    have u1 := (cat hB kA.lt).trans (kA.cell 1)
    have u2 := (cat hB kA.lt).trans (kA.cell 2)
    have u3 := (cat hB kA.lt).trans (kA.cell 3)
    have hK3 := hK (tmv (.slice a1 x2 a3) t.kind t.idx (.slice b1 y2 b3)) w (fun s hs => by cases hs; exact rfl) (Below.refl _ _)
    simp only [over_actP6] at hK3 ⊢
    clear hK hk
    unfold actP6 at hK3 ⊢
    simp only [e42] at hK3 ⊢
    refine want_yes rfl (by rfl) ?_
    go_simp
    exact hK3
  · intro o ho p hp _ z w hB hk K' hK
    cases ho
    have e42 : z 42 = .bool true := hk 42 (by decide +kernel) rfl
    have u0 := (cat hB kA.lt).trans (kA.cell 0)
    have u1 := (cat hB kA.lt).trans (kA.cell 1)
    have u2 := (cat hB kA.lt).trans (kA.cell 2)
    have u3 := (cat hB kA.lt).trans (kA.cell 3)
    have hK3 := hK (tmv (.slice a1 x2 a3) t.kind t.idx (.slice b1 y2 b3)) w (fun s hs => by cases hs; exact rfl) (Below.refl _ _)
    simp only [over_actP6] at hK3 ⊢
    clear hK hk
    unfold actP6 at hK3 ⊢
    simp only [e42] at hK3 ⊢
    refine want_yes rfl (by rfl) ?_
    go_simp
    exact hK3
  · intro o ho p hp _ z w hB hk K' hK
    cases ho
    have e43 : z 43 = tmv (.slice a1 x2 a3) t.kind t.idx (.slice b1 y2 b3) := hk 43 (by decide +kernel) rfl
    have e44 : z 44 = tmv (.slice a1 x2 a3) t.kind t.idx (.slice b1 y2 b3) := hk 44 (by decide +kernel) rfl
    have e42 : z 42 = .bool true := hk 42 (by decide +kernel) rfl
    have hK3 := hK (.slice (some ⟨w.heap.size, 0, none⟩) 2 2) (w.alloc (.cells #[.slice a1 x2 a3, .int .i64 t.kind, .int .i64 t.idx, .slice b1 y2 b3, .slice a1 x2 a3, .int .i64 t.kind, .int .i64 t.idx, .slice b1 y2 b3] 34)) (fun s hs => by cases hs; exact ⟨w.heap.size, rfl, Blk.new w 34 _⟩) ((Below.refl _ _).alloc (Nat.le_refl _) _)
    simp only [over_actP6] at hK3 ⊢
    clear hK hk
    unfold actP6 at hK3 ⊢
    simp only [e43, e44, e42] at hK3 ⊢
    refine want_yes rfl (by rfl) ?_
    go_simp
    exact hK3
  · intro o ho p hp _ z w hB hk K' hK
    cases ho
    have e42 : z 42 = .bool true := hk 42 (by decide +kernel) rfl
    obtain ⟨g9, e45, k45⟩ := hk 45 (by decide +kernel) rfl
    have hcall := Metas_calls t g9 okT w (holdsT_at2 k45 (hxb.bel hB) (hxr.bel hB)) (by omega)
    have hK3 := fun (w2 : World) (a : Option Addr) (c : Nat) (h1 : rowAt w2 a (mets t)) (hb2 : Below w.heap.size w w2) => hK (.slice a (mets t).length c) w2 (fun s hs => by cases hs; exact ⟨a, c, rfl, h1⟩) hb2
    simp only [over_actP6] at hK3 ⊢
    clear hK hk
    unfold actP6 at hK3 ⊢
    simp only [e42, e45] at hK3 ⊢
    refine want_yes rfl (by rfl) ?_
    go_simp
    refine ⟨trivial, (callsIn_wide.2 hcall).mono ?_⟩
    rintro e w2 ⟨a, c, bs, rfl, h1, _, h3, h4, hb2⟩
    obtain rfl := mets_eq t bs h3 h4
    exact hK3 w2 a c h1 hb2
  · intro o ho p hp _ z w hB hk K' hK
    cases ho
    have e42 : z 42 = .bool true := hk 42 (by decide +kernel) rfl
    have u0 := (cat hB k4.lt).trans (k4.cell 0)
    have u1 := (cat hB k4.lt).trans (k4.cell 1)
    have u2 := (cat hB k4.lt).trans (k4.cell 2)
    have u3 := (cat hB k4.lt).trans (k4.cell 3)
    have hK3 := hK (tmv (.slice x1 x2 x3) t.kind t.idx (.slice y1 y2 y3)) w (fun s hs => by cases hs; exact rfl) (Below.refl _ _)
    simp only [over_actP6] at hK3 ⊢
    clear hK hk
    unfold actP6 at hK3 ⊢
    simp only [e42] at hK3 ⊢
    refine want_yes rfl (by rfl) ?_
    go_simp
    exact hK3
  · intro o ho p hp _ z w hB hk K' hK
    cases ho
    have e47 : z 47 = tmv (.slice x1 x2 x3) t.kind t.idx (.slice y1 y2 y3) := hk 47 (by decide +kernel) rfl
    have e42 : z 42 = .bool true := hk 42 (by decide +kernel) rfl
    have hK3 := hK (.slice (some ⟨w.heap.size, 0, none⟩) 1 1) (w.alloc (.cells #[.slice x1 x2 x3, .int .i64 t.kind, .int .i64 t.idx, .slice y1 y2 y3] 27)) (fun s hs => by cases hs; exact ⟨w.heap.size, rfl, Blk.new w 27 _⟩) ((Below.refl _ _).alloc (Nat.le_refl _) _)
    simp only [over_actP6] at hK3 ⊢
    clear hK hk
    unfold actP6 at hK3 ⊢
    simp only [e47, e42] at hK3 ⊢
    refine want_yes rfl (by rfl) ?_
    go_simp
    exact hK3
  · intro o ho p hp _ z w hB hk K' hK
    cases ho
    have e42 : z 42 = .bool true := hk 42 (by decide +kernel) rfl
    obtain ⟨g9, e48, k48⟩ := hk 48 (by decide +kernel) rfl
    have hcall := (show Calls Try.prog 22 #[.slice (some ⟨g9, 0, none⟩) 1 1] w (fun e w2 => ∃ v, e = .returned v ∧ w2.ownsRow w.heap.size 3 1 v (mets t).length (ints (mets t)) ∧ Below w.heap.size w w2) from refMetas_calls t g9 okT w (holdsT_at1 k48 (hb4.bel hB) (hr4.bel hB)) (by omega) hrg)
    have hK3 := fun (w2 : World) (a : Option Addr) (c : Nat) (h1 : rowAt w2 a (mets t)) (hb2 : Below w.heap.size w w2) => hK (.slice a (mets t).length c) w2 (fun s hs => by cases hs; exact ⟨a, c, rfl, h1⟩) hb2
    simp only [over_actP6] at hK3 ⊢
    clear hK hk
    unfold actP6 at hK3 ⊢
    simp only [e42, e48] at hK3 ⊢
    refine want_yes rfl (by rfl) ?_
    go_simp
    refine ⟨trivial, (callsIn_wide.2 hcall).mono ?_⟩
    rintro e w2 ⟨v, rfl, h1, hb2⟩
    obtain ⟨a, c, rfl, _, _, h2⟩ := irow_form h1 rfl
    exact hK3 w2 a c h2 hb2
  · intro o ho p hp _ z w hB hk K' hK
    cases ho
    have e42 : z 42 = .bool true := hk 42 (by decide +kernel) rfl
    obtain ⟨a6, c6, e46, h46⟩ := hk 46 (by decide +kernel) rfl
    obtain ⟨a9, c9, e49, h49⟩ := hk 49 (by decide +kernel) rfl
    have hcall := Like_calls (mets t) a6 a9 c6 c9 w (by omega) h46 h49
    have hK3 := fun (w2 : World) (hb2 : Below w.heap.size w w2) => hK (.bool true) w2 (fun s hs => by cases hs; exact rfl) hb2
    simp only [over_actP6] at hK3 ⊢
    clear hK hk
    unfold actP6 at hK3 ⊢
    simp only [e42, e46, e49] at hK3 ⊢
    refine want_yes rfl (by rfl) ?_
    go_simp
    refine ⟨trivial, (callsIn_wide.2 hcall).mono ?_⟩
    rintro e w2 ⟨rfl, hb2⟩
    exact hK3 w2 hb2
  · intro o ho p hp _ z w hB hk K' hK
    cases ho
    have e42 : z 42 = .bool true := hk 42 (by decide +kernel) rfl
    have e50 : z 50 = .bool true := hk 50 (by decide +kernel) rfl
    have hK3 := hK (.bool true) w (fun s hs => by cases hs; exact rfl) (Below.refl _ _)
    simp only [over_actP6] at hK3 ⊢
    clear hK hk
    unfold actP6 at hK3 ⊢
    simp only [e42, e50] at hK3 ⊢
    refine want_plain rfl ?_
    go_simp
    exact hK3
  · intro o ho p hp _ z w hB hk K' hK
    cases ho
    have e51 : z 51 = .bool true := hk 51 (by decide +kernel) rfl
    have hK3 := hK (.bool true) w (fun s hs => by cases hs; exact rfl) (Below.refl _ _)
    simp only [over_actP6] at hK3 ⊢
    clear hK hk
    unfold actP6 at hK3 ⊢
    simp only [e51] at hK3 ⊢
    refine want_plain rfl ?_
    go_simp
    exact hK3
  · intro o ho p hp _ z w hB hk K' hK
    cases ho
    have e52 : z 52 = .bool true := hk 52 (by decide +kernel) rfl
    have u0 := (cat hB kA.lt).trans (kA.cell 0)
    have u1 := (cat hB kA.lt).trans (kA.cell 1)
    have u2 := (cat hB kA.lt).trans (kA.cell 2)
    have u3 := (cat hB kA.lt).trans (kA.cell 3)
    have hK3 := hK (tmv (.slice a1 x2 a3) t.kind t.idx (.slice b1 y2 b3)) w (fun s hs => by cases hs; exact rfl) (Below.refl _ _)
    simp only [over_actP6] at hK3 ⊢
    clear hK hk
    unfold actP6 at hK3 ⊢
    simp only [e52] at hK3 ⊢
    refine want_yes rfl (by rfl) ?_
    go_simp
    exact hK3
  · intro o ho p hp _ z w hB hk K' hK
    cases ho
    have e52 : z 52 = .bool true := hk 52 (by decide +kernel) rfl
    have hK3 := hK (.pointer (some ⟨N + 1, 0, none⟩)) w (fun s hs => by cases hs; exact rfl) (Below.refl _ _)
    simp only [over_actP6] at hK3 ⊢
    clear hK hk
    unfold actP6 at hK3 ⊢
    simp only [e52] at hK3 ⊢
    refine want_yes rfl (by rfl) ?_
    go_simp
    exact hK3
  · intro o ho p hp _ z w hB hk K' hK
    cases ho
    have e54 : z 54 = .pointer (some ⟨N + 1, 0, none⟩) := hk 54 (by decide +kernel) rfl
    have e52 : z 52 = .bool true := hk 52 (by decide +kernel) rfl
    have u0 := (cat hB kh.lt).trans (kh.cell 0)
    have hK3 := hK (.int .i64 q1) w (fun s hs => by cases hs; exact rfl) (Below.refl _ _)
    simp only [over_actP6] at hK3 ⊢
    clear hK hk
    unfold actP6 at hK3 ⊢
    simp only [e54, e52] at hK3 ⊢
    refine want_yes rfl (by rfl) ?_
    go_simp
    exact hK3
  · intro o ho p hp _ z w hB hk K' hK
    cases ho
    have e52 : z 52 = .bool true := hk 52 (by decide +kernel) rfl
    have hK3 := hK (.pointer (some ⟨N + 1, 1, none⟩)) w (fun s hs => by cases hs; exact rfl) (Below.refl _ _)
    simp only [over_actP6] at hK3 ⊢
    clear hK hk
    unfold actP6 at hK3 ⊢
    simp only [e52] at hK3 ⊢
    refine want_yes rfl (by rfl) ?_
    go_simp
    exact hK3
  · intro o ho p hp _ z w hB hk K' hK
    cases ho
    have e56 : z 56 = .pointer (some ⟨N + 1, 1, none⟩) := hk 56 (by decide +kernel) rfl
    have e52 : z 52 = .bool true := hk 52 (by decide +kernel) rfl
    have u0 := (cat hB kh.lt).trans (kh.cell 1)
    have hK3 := hK (.int .i64 q2) w (fun s hs => by cases hs; exact rfl) (Below.refl _ _)
    simp only [over_actP6] at hK3 ⊢
    clear hK hk
    unfold actP6 at hK3 ⊢
    simp only [e56, e52] at hK3 ⊢
    refine want_yes rfl (by rfl) ?_
    go_simp
    exact hK3
  · intro o ho p hp _ z w hB hk K' hK
    cases ho
    have e55 : z 55 = .int .i64 q1 := hk 55 (by decide +kernel) rfl
    have e57 : z 57 = .int .i64 q2 := hk 57 (by decide +kernel) rfl
    have e52 : z 52 = .bool true := hk 52 (by decide +kernel) rfl
    have hK3 := hK (hv q1 q2) w (fun s hs => by cases hs; exact rfl) (Below.refl _ _)
    simp only [over_actP6] at hK3 ⊢
    clear hK hk
    unfold actP6 at hK3 ⊢
    simp only [e55, e57, e52] at hK3 ⊢
    refine want_yes rfl (by rfl) ?_
    go_simp
    exact hK3
  · intro o ho p hp _ z w hB hk K' hK
    cases ho
    have e53 : z 53 = tmv (.slice a1 x2 a3) t.kind t.idx (.slice b1 y2 b3) := hk 53 (by decide +kernel) rfl
    have e58 : z 58 = hv q1 q2 := hk 58 (by decide +kernel) rfl
    have e52 : z 52 = .bool true := hk 52 (by decide +kernel) rfl
    have hcall := CountH_calls q1 q2 t okT _ _ w (hxb.bel hB) (hxr.bel hB) (by omega) hrg
    have hK3 := fun (w2 : World) (hb2 : Below w.heap.size w w2) => hK (.int .i64 (((viss (t.heads 1 0)).count (q1, q2) : Nat) : Int)) w2 (fun s hs => by cases hs; exact rfl) hb2
    simp only [over_actP6] at hK3 ⊢
    clear hK hk
    unfold actP6 at hK3 ⊢
    simp only [e53, e58, e52] at hK3 ⊢
    refine want_yes rfl (by rfl) ?_
    go_simp
    refine ⟨trivial, (callsIn_wide.2 hcall).mono ?_⟩
    rintro e w2 ⟨rfl, hb2⟩
    exact hK3 w2 hb2
  · intro o ho p hp _ z w hB hk K' hK
    cases ho
    have e52 : z 52 = .bool true := hk 52 (by decide +kernel) rfl
    have u0 := (cat hB k4.lt).trans (k4.cell 0)
    have u1 := (cat hB k4.lt).trans (k4.cell 1)
    have u2 := (cat hB k4.lt).trans (k4.cell 2)
    have u3 := (cat hB k4.lt).trans (k4.cell 3)
    have hK3 := hK (tmv (.slice x1 x2 x3) t.kind t.idx (.slice y1 y2 y3)) w (fun s hs => by cases hs; exact rfl) (Below.refl _ _)
    simp only [over_actP6] at hK3 ⊢
    clear hK hk
    unfold actP6 at hK3 ⊢
    simp only [e52] at hK3 ⊢
    refine want_yes rfl (by rfl) ?_
    go_simp
    exact hK3
  · intro o ho p hp _ z w hB hk K' hK
    cases ho
    have e52 : z 52 = .bool true := hk 52 (by decide +kernel) rfl
    have u0 := (cat hB kh.lt).trans (kh.cell 0)
    have u1 := (cat hB kh.lt).trans (kh.cell 1)
    have hK3 := hK (hv q1 q2) w (fun s hs => by cases hs; exact rfl) (Below.refl _ _)
    simp only [over_actP6] at hK3 ⊢
    clear hK hk
    unfold actP6 at hK3 ⊢
    simp only [e52] at hK3 ⊢
    refine want_yes rfl (by rfl) ?_
    go_simp
    exact hK3
  · intro o ho p hp _ z w hB hk K' hK
    cases ho
    have e60 : z 60 = tmv (.slice x1 x2 x3) t.kind t.idx (.slice y1 y2 y3) := hk 60 (by decide +kernel) rfl
    have e61 : z 61 = hv q1 q2 := hk 61 (by decide +kernel) rfl
    have e52 : z 52 = .bool true := hk 52 (by decide +kernel) rfl
    have hcall := refCountT_calls t q1 q2 okT _ _ w (hb4.bel hB) (hr4.bel hB) (by omega) hrg
    have hK3 := fun (w2 : World) (hb2 : Below w.heap.size w w2) => hK (.int .i64 (((viss (t.heads 1 0)).count (q1, q2) : Nat) : Int)) w2 (fun s hs => by cases hs; exact rfl) hb2
    simp only [over_actP6] at hK3 ⊢
    clear hK hk
    unfold actP6 at hK3 ⊢
    simp only [e60, e61, e52] at hK3 ⊢
    refine want_yes rfl (by rfl) ?_
    go_simp
    refine ⟨trivial, (callsIn_wide.2 hcall).mono ?_⟩
    rintro e w2 ⟨rfl, hb2⟩
    exact hK3 w2 hb2
  · intro o ho p hp _ z w hB hk K' hK
    cases ho
    have e59 : z 59 = .int .i64 (((viss (t.heads 1 0)).count (q1, q2) : Nat) : Int) := hk 59 (by decide +kernel) rfl
    have e62 : z 62 = .int .i64 (((viss (t.heads 1 0)).count (q1, q2) : Nat) : Int) := hk 62 (by decide +kernel) rfl
    have e52 : z 52 = .bool true := hk 52 (by decide +kernel) rfl
    have hK3 := hK (.bool true) w (fun s hs => by cases hs; exact rfl) (Below.refl _ _)
    simp only [over_actP6] at hK3 ⊢
    clear hK hk
    unfold actP6 at hK3 ⊢
    simp only [e59, e62, e52] at hK3 ⊢
    refine want_yes rfl (by rfl) ?_
    go_simp
    exact hK3
  · intro o ho p hp _ z w hB hk K' hK
    cases ho
    have e52 : z 52 = .bool true := hk 52 (by decide +kernel) rfl
    have e63 : z 63 = .bool true := hk 63 (by decide +kernel) rfl
    have hK3 := hK (.bool true) w (fun s hs => by cases hs; exact rfl) (Below.refl _ _)
    simp only [over_actP6] at hK3 ⊢
    clear hK hk
    unfold actP6 at hK3 ⊢
    simp only [e52, e63] at hK3 ⊢
    refine want_plain rfl ?_
    go_simp
    exact hK3
  · intro o ho p hp _ z w hB hk K' hK
    cases ho
    have e64 : z 64 = .bool true := hk 64 (by decide +kernel) rfl
    have hK3 := hK (.bool true) w (fun s hs => by cases hs; exact rfl) (Below.refl _ _)
    simp only [over_actP6] at hK3 ⊢
    clear hK hk
    unfold actP6 at hK3 ⊢
    simp only [e64] at hK3 ⊢
    refine want_plain rfl ?_
    go_simp
    exact hK3
  · intro o ho p hp _ z w hB hk K' hK
    cases ho
    have e65 : z 65 = .bool true := hk 65 (by decide +kernel) rfl
    have u0 := (cat hB kA.lt).trans (kA.cell 0)
    have u1 := (cat hB kA.lt).trans (kA.cell 1)
    have u2 := (cat hB kA.lt).trans (kA.cell 2)
    have u3 := (cat hB kA.lt).trans (kA.cell 3)
    have hK3 := hK (tmv (.slice a1 x2 a3) t.kind t.idx (.slice b1 y2 b3)) w (fun s hs => by cases hs; exact rfl) (Below.refl _ _)
    simp only [over_actP6] at hK3 ⊢
    clear hK hk
    unfold actP6 at hK3 ⊢
    simp only [e65] at hK3 ⊢
    refine want_yes rfl (by rfl) ?_
    go_simp
    exact hK3
  · intro o ho p hp _ z w hB hk K' hK
    cases ho
    have e66 : z 66 = tmv (.slice a1 x2 a3) t.kind t.idx (.slice b1 y2 b3) := hk 66 (by decide +kernel) rfl
    have e65 : z 65 = .bool true := hk 65 (by decide +kernel) rfl
    have hcall := OfT_calls t okT _ _ w (hxb.bel hB) (hxr.bel hB) (by omega)
    have hK3 := fun (w2 : World) (p1 : Option Addr) (pn p2 : Nat) (r1 : Option Addr) (rn r2 : Nat) (h1 : Holds w2 okT t.binds (.slice p1 pn p2)) (h2 : HoldsT w2 okT t.args (.slice r1 rn r2)) (hb2 : Below w.heap.size w w2) => hK (tmv (.slice p1 pn p2) t.kind t.idx (.slice r1 rn r2)) w2 (fun s hs => by cases hs; exact ⟨p1, pn, p2, r1, rn, r2, rfl, h1, h2⟩) hb2
    simp only [over_actP6] at hK3 ⊢
    clear hK hk
    unfold actP6 at hK3 ⊢
    simp only [e66, e65] at hK3 ⊢
    refine want_yes rfl (by rfl) ?_
    go_simp
    refine ⟨trivial, (callsIn_wide.2 hcall).mono ?_⟩
    rintro e w2 ⟨vb, vr, rfl, h1, h2, hb2⟩
    obtain ⟨p1, p2, rfl, _⟩ := h1.shape
    obtain ⟨r1, r2, rfl, _⟩ := h2.shape
    exact hK3 w2 p1 _ p2 r1 _ r2 h1.t (h2.mono fun _ _ _ => trivial) hb2
  · intro o ho p hp _ z w hB hk K' hK
    cases ho
    have e65 : z 65 = .bool true := hk 65 (by decide +kernel) rfl
    have u0 := (cat hB k4.lt).trans (k4.cell 0)
    have u1 := (cat hB k4.lt).trans (k4.cell 1)
    have u2 := (cat hB k4.lt).trans (k4.cell 2)
    have u3 := (cat hB k4.lt).trans (k4.cell 3)
    have hK3 := hK (tmv (.slice x1 x2 x3) t.kind t.idx (.slice y1 y2 y3)) w (fun s hs => by cases hs; exact rfl) (Below.refl _ _)
    simp only [over_actP6] at hK3 ⊢
    clear hK hk
    unfold actP6 at hK3 ⊢
    simp only [e65] at hK3 ⊢
    refine want_yes rfl (by rfl) ?_
    go_simp
    exact hK3
  · intro o ho p hp _ z w hB hk K' hK
    cases ho
    have e68 : z 68 = tmv (.slice x1 x2 x3) t.kind t.idx (.slice y1 y2 y3) := hk 68 (by decide +kernel) rfl
    have e65 : z 65 = .bool true := hk 65 (by decide +kernel) rfl
    obtain ⟨p1, pn, p2, r1, rn, r2, e67, h67, h67t⟩ := hk 67 (by decide +kernel) rfl
    have hs69 := SameTm_calls t t okT okT _ _ _ _ w h67 h67t (hb4.bel hB) (hr4.bel hB) (by omega)
    rw [t.same_self] at hs69
    have hcall := hs69
    have hK3 := fun (w2 : World) (hb2 : Below w.heap.size w w2) => hK (.bool true) w2 (fun s hs => by cases hs; exact rfl) hb2
    simp only [over_actP6] at hK3 ⊢
    clear hK hk
    unfold actP6 at hK3 ⊢
    simp only [e68, e65, e67] at hK3 ⊢
    refine want_yes rfl (by rfl) ?_
    go_simp
    refine ⟨trivial, (callsIn_wide.2 hcall).mono ?_⟩
    rintro e w2 ⟨rfl, hb2⟩
    exact hK3 w2 hb2
  · intro o ho p hp _ z w hB hk K' hK
    cases ho
    have e65 : z 65 = .bool true := hk 65 (by decide +kernel) rfl
    have e69 : z 69 = .bool true := hk 69 (by decide +kernel) rfl
    have hK3 := hK (.bool true) w (fun s hs => by cases hs; exact rfl) (Below.refl _ _)
    simp only [over_actP6] at hK3 ⊢
    clear hK hk
    unfold actP6 at hK3 ⊢
    simp only [e65, e69] at hK3 ⊢
    refine want_plain rfl ?_
    go_simp
    exact hK3
  · intro o ho p hp _ z w hB hk K' hK
    cases ho
    have e70 : z 70 = .bool true := hk 70 (by decide +kernel) rfl
    have hK3 := hK (.bool true) w (fun s hs => by cases hs; exact rfl) (Below.refl _ _)
    simp only [over_actP6] at hK3 ⊢
    clear hK hk
    unfold actP6 at hK3 ⊢
    simp only [e70] at hK3 ⊢
    refine want_plain rfl ?_
    go_simp
    exact hK3
  · intro z w' hB hv
    have e4 : z 4 = .bool true := hv 4 (by decide +kernel)
    rw [over_actP6]
    refine hKs _ _ ?_
    unfold actP6
    simp only [e4]
    have B9 : Below N w w' := bl4.trans (hB.mono hz4)
    go_wp2
    go_ret
    exact ⟨rfl, B9⟩


end Go.Proofs.Ytheokboggjnenaa
