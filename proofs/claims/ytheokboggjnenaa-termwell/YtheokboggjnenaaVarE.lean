/-
  The contracts of term.Var and term.Eta.
-/
import Derived.Test.YtheokboggjnenaaIsLong
import Derived.Test.YtheokboggjnenaaLongT
namespace Go.Proofs.Ytheokboggjnenaa
open Go Go.RowKit Go.Sort

/-- A head as it is seen from outside of so many binders, and whether it is to be seen there. -/
def seen (k i : Int) (n : Nat) : Int × Int × Bool := if k ≠ 0 then (k, i, true) else if i < n then (0, 0, false) else (0, i - n, true)
theorem look_calls (k i : Int) (n : Nat) (hi : i ≤ 9223372036854775807) (w : World) :
    Calls Try.prog 62 #[hv k i, .int .i64 n] w fun e w' => e = .returned (.tuple #[hv (seen k i n).1 (seen k i n).2.1, .bool (seen k i n).2.2]) ∧ Below w.heap.size w w' := by
  by_cases hk : k = 0
  · subst hk
    by_cases hl : i < n
    · rw [show seen 0 i n = (0, 0, false) by unfold seen; simp [hl]]
      exact look_in i n hl w
    · rw [show seen 0 i n = (0, i - n, true) by unfold seen; simp [hl]]
      exact look_out i n (by omega) hi w
  · rw [show seen k i n = (k, i, true) by unfold seen; simp [hk]]
    exact look_other k i n hk w
theorem seen_low (k i : Int) (n : Nat) (h : (seen k i n).1 = 0) : -1000000000 ≤ (seen k i n).2.1 := by
  unfold seen at h ⊢
  by_cases hk : k = 0
  · subst hk
    by_cases hl : i < n
    · simp [hl]
    · simp [hl]; omega
  · simp [hk] at h
theorem seen_high (k i : Int) (n : Nat) (hn : n ≤ 1000000) (hi : i ≤ 9223372036854775807) (h : (seen k i n).1 = 0) : (seen k i n).2.1 ≤ 9223372036854775807 - n := by
  unfold seen at h ⊢
  by_cases hk : k = 0
  · subst hk
    by_cases hl : i < n
    · simp [hl]; omega
    · simp [hl]; omega
  · simp [hk] at h
/-- Of which head a term is the long form, and whether it is one. -/
def varR (t : Tm) : Int × Int × Bool := if (seen t.kind t.idx t.binds.length).2.2 && isEta t (seen t.kind t.idx t.binds.length).1 (seen t.kind t.idx t.binds.length).2.1 t.binds then seen t.kind t.idx t.binds.length else (0, 0, false)

set_option maxRecDepth 100000 in
set_option maxHeartbeats 1000000 in
theorem Var_calls (t : Tm) (sb sr : Value) (w : World) (hb : Holds w okT t.binds sb) (hr : HoldsT w okT t.args sr) (htt : t.total ≤ 1000000) (hi : t.idx ≤ 9223372036854775807) :
    Calls Try.prog 49 #[tmv sb t.kind t.idx sr] w fun e w' => e = .returned (.tuple #[hv (varR t).1 (varR t).2.1, .bool (varR t).2.2]) ∧ Below w.heap.size w w' := by
  have htot := t.total_eq
  have hlb := sizeL_length t.binds
  have hlk := fun w => look_calls t.kind t.idx t.binds.length hi w
  have hlow := seen_low t.kind t.idx t.binds.length
  have hhigh := seen_high t.kind t.idx t.binds.length (by omega) hi
  have hil := isLong_calls t (seen t.kind t.idx t.binds.length).1 (seen t.kind t.idx t.binds.length).2.1 t.binds sb sr sb
  have hvr : varR t = if (seen t.kind t.idx t.binds.length).2.2 && isEta t (seen t.kind t.idx t.binds.length).1 (seen t.kind t.idx t.binds.length).2.1 t.binds then seen t.kind t.idx t.binds.length else (0, 0, false) := rfl
  have hsz : sizeL t.binds ≤ 1000000 := by omega
  obtain ⟨⟨sk, si, so⟩, hse⟩ : ∃ s, seen t.kind t.idx t.binds.length = s := ⟨_, rfl⟩
  rw [hse] at hvr hlow hhigh hil
  simp only [hse] at hlk
  obtain ⟨r, hre⟩ : ∃ r, isEta t sk si t.binds = r := ⟨_, rfl⟩
  simp only at hvr hlow hhigh hil hlk
  rw [hre] at hvr
  simp only [hre] at hil
  obtain ⟨x1, x2, rfl, _⟩ := hb.shape
  obtain ⟨a, cap, rfl, _⟩ := hr.shape
  obtain ⟨⟨vk, vi, vo⟩, hve⟩ : ∃ s, varR t = s := ⟨_, rfl⟩
  rw [hve] at hvr ⊢
  have HVR : Hid _ := hvr
  obtain ⟨N, hN⟩ : ∃ N, w.heap.size = N := ⟨_, rfl⟩
  rw [hN]
  obtain ⟨bn, hbn⟩ : ∃ bn, t.binds.length = bn := ⟨_, rfl⟩
  rw [hbn] at hb hil hlk hhigh hlb ⊢
  obtain ⟨an, han⟩ : ∃ an, t.args.length = an := ⟨_, rfl⟩
  rw [han] at hr hil ⊢
  obtain ⟨W0, hW0⟩ : ∃ W0, (w.alloc (.cells #[.slice x1 bn x2, .int .i64 t.kind, .int .i64 t.idx, .slice a an cap] 34)).alloc (.cells #[.int .i64 0, .int .i64 0] 31) = W0 := ⟨_, rfl⟩
  have b0 : Blk W0 N 34 #[.slice x1 bn x2, .int .i64 t.kind, .int .i64 t.idx, .slice a an cap] := by rw [← hW0]; exact (Blk.new' w N 34 _ hN).alloc _
  have b1 : Blk W0 (N + 1) 31 #[.int .i64 0, .int .i64 0] := by rw [← hW0]; exact Blk.new' _ (N + 1) 31 _ (by simp [hN])
  have bl0 : Below N w W0 := by rw [← hW0]; exact ((Below.refl N w).alloc (by omega) _).alloc (by simp; omega) _
  have hb0 := hb.bel (hN ▸ bl0)
  have hr0 := hr.bel (hN ▸ bl0)
  have hlk0 := hlk W0
  have hle0 : N + 1 < W0.heap.size := b1.lt
  have HW : Hid _ := hW0
  clear hvr hse hve hre hbn han hW0 hlk hb hr hi htot hlb
  go_enter Try.func49, Try.ntmps49
  go_wp2_with fail
  rw [HW.out]
  clear HW
  refine hlk0.mono ?_
  rintro e w1 ⟨rfl, hb1⟩
  have hB1 : Below N w w1 := bl0.trans (hb1.mono (by omega))
  have k0 := b0.below hb1 b0.lt
  have k1 := b1.below hb1 b1.lt
  have hh1 := hb0.bel hb1
  have hr1 := hr0.bel hb1
  clear hlk0 b0 b1 bl0 hb0 hr0 hb1
  have l1 : N + 1 < w1.heap.size := k1.lt
  obtain ⟨Y, hY⟩ : ∃ Y, w1.heap.size = Y := ⟨_, rfl⟩
  obtain ⟨w2, hw2⟩ : ∃ w2, w1.alloc (.cells #[.int .i64 sk, .int .i64 si] 31) = w2 := ⟨_, rfl⟩
  have hbb : Below w1.heap.size w1 w2 := by rw [← hw2]; exact (Below.refl _ _).alloc (Nat.le_refl _) _
  have bY : Blk w2 Y 31 #[.int .i64 sk, .int .i64 si] := by rw [← hw2]; exact Blk.new' w1 Y 31 _ hY
  have hB2 : Below N w w2 := hB1.trans (hbb.mono (by omega))
  have m0 := k0.below hbb k0.lt
  have m1 := k1.below hbb k1.lt
  have hcall := hil w2 (hh1.bel hbb) (hr1.bel hbb) (hh1.bel hbb) htt hsz hlow hhigh
  have c0 := m0.cell 0
  have c1 := m0.cell 1
  have c2 := m0.cell 2
  have c3 := m0.cell 3
  have d0 := bY.cell 0
  have d1 := bY.cell 1
  have e0 := m1.cell 0
  have e1 := m1.cell 1
  have f0 := m1.frozen 0
  have f1 := m1.frozen 1
  have HW2 : Hid _ := hw2
  clear hw2 hil hbb hh1 hr1 k0 k1 hB1
  cases so with
  | false =>
    obtain ⟨rfl, rfl, rfl⟩ : vk = 0 ∧ vi = 0 ∧ vo = false := by have := HVR.out; simpa using this
    have hB3 : Below N w ((w2.setCell ⟨N + 1, 0, none⟩ (.int .i64 0)).setCell ⟨N + 1, 1, none⟩ (.int .i64 0)) := bset (bset hB2 (by omega) _) (by omega) _
    have b9 := (m1.set 0 (.int .i64 0)).set 1 (.int .i64 0)
    go_upto_if 24 with fail
    rw [HW2.out]
    clear HW2
    go_wp2
    generalize (w2.setCell ⟨N + 1, 0, none⟩ (.int .i64 0)).setCell ⟨N + 1, 1, none⟩ (.int .i64 0) = W5 at *
    have g0 : W5.cell? ⟨N + 1, 0, none⟩ = some (.int .i64 0) := b9.cell 0
    have g1 : W5.cell? ⟨N + 1, 1, none⟩ = some (.int .i64 0) := b9.cell 1
    exact bodyPost_ret (v := .tuple #[hv 0 0, .bool false]) (by simp [results, Try.results49, go_sem, g0, g1]) rfl ⟨rfl, hB3⟩
  | true =>
    go_upto_region 2 with fail
    rw [HW2.out]
    clear HW2
    go_wp2_with fail
    refine hcall.mono ?_
    rintro e w3 ⟨rfl, hb3⟩
    have hB3 : Below N w w3 := hB2.trans (hb3.mono (by have := m1.lt; omega))
    have n1 := m1.below hb3 m1.lt
    have nY := bY.below hb3 bY.lt
    clear hcall c0 c1 c2 c3 d0 d1 e0 e1 f0 f1 m0 m1 bY hB2 hb3
    have d0 := nY.cell 0
    have d1 := nY.cell 1
    have e0 := n1.cell 0
    have e1 := n1.cell 1
    have f0 := n1.frozen 0
    have f1 := n1.frozen 1
    cases r with
    | false =>
      obtain ⟨rfl, rfl, rfl⟩ : vk = 0 ∧ vi = 0 ∧ vo = false := by have := HVR.out; simpa using this
      have hB4 : Below N w ((w3.setCell ⟨N + 1, 0, none⟩ (.int .i64 0)).setCell ⟨N + 1, 1, none⟩ (.int .i64 0)) := bset (bset hB3 (by omega) _) (by omega) _
      have b9 := (n1.set 0 (.int .i64 0)).set 1 (.int .i64 0)
      go_wp2
      generalize (w3.setCell ⟨N + 1, 0, none⟩ (.int .i64 0)).setCell ⟨N + 1, 1, none⟩ (.int .i64 0) = W5 at *
      have g0 : W5.cell? ⟨N + 1, 0, none⟩ = some (.int .i64 0) := b9.cell 0
      have g1 : W5.cell? ⟨N + 1, 1, none⟩ = some (.int .i64 0) := b9.cell 1
      exact bodyPost_ret (v := .tuple #[hv 0 0, .bool false]) (by simp [results, Try.results49, go_sem, g0, g1]) rfl ⟨rfl, hB4⟩
    | true =>
      obtain ⟨rfl, rfl, rfl⟩ : vk = sk ∧ vi = si ∧ vo = true := by have := HVR.out; simpa using this
      have hB4 : Below N w ((w3.setCell ⟨N + 1, 0, none⟩ (.int .i64 vk)).setCell ⟨N + 1, 1, none⟩ (.int .i64 vi)) := bset (bset hB3 (by omega) _) (by omega) _
      have b9 := (n1.set 0 (.int .i64 vk)).set 1 (.int .i64 vi)
      go_wp2
      generalize (w3.setCell ⟨N + 1, 0, none⟩ (.int .i64 vk)).setCell ⟨N + 1, 1, none⟩ (.int .i64 vi) = W5 at *
      have g0 : W5.cell? ⟨N + 1, 0, none⟩ = some (.int .i64 vk) := b9.cell 0
      have g1 : W5.cell? ⟨N + 1, 1, none⟩ = some (.int .i64 vi) := b9.cell 1
      exact bodyPost_ret (v := .tuple #[hv vk vi, .bool true]) (by simp [results, Try.results49, go_sem, g0, g1]) rfl ⟨rfl, hB4⟩

/-- Whether a head may be told in long form. -/
def etaBad (k i : Int) : Bool := (k == 0) && (decide (i < 0) || decide (1000 < i))
/-- The long form, or the zero term. -/
def etaR (k i : Int) (ts : List Ty) : Tm := if etaBad k i then .mk [] 0 0 [] else etaK k i ts

set_option maxRecDepth 100000 in
set_option maxHeartbeats 1000000 in
theorem Eta_bad (k i : Int) (b : Int) (a : Option Addr) (n cap : Nat) (w : World) (hbad : etaBad k i = true) :
    Calls Try.prog 47 #[hv k i, tv (.slice a n cap) b] w fun e w' => e = .returned (tmv (.slice none 0 0) 0 0 (.slice none 0 0)) ∧ Below w.heap.size w w' := by
  obtain ⟨N, hN⟩ : ∃ N, w.heap.size = N := ⟨_, rfl⟩
  rw [hN]
  obtain ⟨W0, hW0⟩ : ∃ W0, ((w.alloc (.cells #[.int .i64 k, .int .i64 i] 31)).alloc (.cells #[.slice a n cap, .int .i64 b] 63)).alloc (.cells #[.slice none 0 0, .int .i64 0, .int .i64 0, .slice none 0 0] 34) = W0 := ⟨_, rfl⟩
  have b2 : Blk W0 (N + 2) 34 #[.slice none 0 0, .int .i64 0, .int .i64 0, .slice none 0 0] := by rw [← hW0]; exact Blk.new' _ (N + 2) 34 _ (by simp [hN])
  have bl0 : Below N w W0 := by rw [← hW0]; exact (((Below.refl N w).alloc (by omega) _).alloc (by simp; omega) _).alloc (by simp; omega) _
  have HW : Hid _ := hW0
  clear hW0
  have hk : k = 0 := by unfold etaBad at hbad; simp at hbad; exact hbad.1
  subst hk
  obtain ⟨d1, hd1⟩ : ∃ d, decide (i < 0) = d := ⟨_, rfl⟩
  obtain ⟨d2, hd2⟩ : ∃ d, decide (1000 < i) = d := ⟨_, rfl⟩
  have hd : (d1 || d2) = true := by unfold etaBad at hbad; rw [hd1, hd2] at hbad; simpa using hbad
  have hd3 : decide (i > 1000) = d2 := hd2
  clear hbad
  cases d1 <;> cases d2 <;> first
    | (simp at hd; done)
    | (go_enter Try.func47, Try.ntmps47
       go_wp2
       rw [HW.out]
       clear HW
       have g0 := b2.cell 0
       have g1 := b2.cell 1
       have g2 := b2.cell 2
       have g3 := b2.cell 3
       exact bodyPost_ret (v := tmv (.slice none 0 0) 0 0 (.slice none 0 0)) (by simp [results, Try.results47, go_sem, g0, g1, g2, g3]) rfl ⟨rfl, bl0⟩)

set_option maxRecDepth 100000 in
set_option maxHeartbeats 1000000 in
theorem Eta_good (k i : Int) (ty : Ty) (sl : Value) (w : World) (hh : Holds w okT ty.args sl) (hsz : ty.size ≤ 1000000) (hbad : etaBad k i = false) :
    Calls Try.prog 47 #[hv k i, tv sl ty.base] w fun e w' => ∃ vb vr, e = .returned (tmv vb k (insI k i ty.args.length) vr) ∧ Holds w' (fun b => w.heap.size ≤ b) ty.args vb ∧ HoldsT w' (fun b => w.heap.size ≤ b) (etaL ty.args) vr ∧ Below w.heap.size w w' := by
  obtain ⟨N, hN⟩ : ∃ N, w.heap.size = N := ⟨_, rfl⟩
  rw [hN]
  have hs2 := ty.size_eq
  have hki : k = 0 → 0 ≤ i ∧ i ≤ 2000000 := fun h => by
    unfold etaBad at hbad
    simp [h] at hbad
    omega
  obtain ⟨a, cap, rfl, _⟩ := hh.shape
  generalize hn : ty.args.length = n at *
  obtain ⟨W0, hW0⟩ : ∃ W0, ((w.alloc (.cells #[.int .i64 k, .int .i64 i] 31)).alloc (.cells #[.slice a n cap, .int .i64 ty.base] 63)).alloc (.cells #[.slice none 0 0, .int .i64 0, .int .i64 0, .slice none 0 0] 34) = W0 := ⟨_, rfl⟩
  have b0 : Blk W0 N 31 #[.int .i64 k, .int .i64 i] := by rw [← hW0]; exact ((Blk.new' w N 31 _ hN).alloc _).alloc _
  have b1 : Blk W0 (N + 1) 63 #[.slice a n cap, .int .i64 ty.base] := by rw [← hW0]; exact (Blk.new' _ (N + 1) 63 _ (by simp [hN])).alloc _
  have b2 : Blk W0 (N + 2) 34 #[.slice none 0 0, .int .i64 0, .int .i64 0, .slice none 0 0] := by rw [← hW0]; exact Blk.new' _ (N + 2) 34 _ (by simp [hN])
  have bl0 : Below N w W0 := by rw [← hW0]; exact (((Below.refl N w).alloc (by omega) _).alloc (by simp; omega) _).alloc (by simp; omega) _
  have hcall := long_calls ty.args okT _ W0 k i (hh.bel (hN ▸ bl0)) (by omega) hki
  have hz : N + 2 < W0.heap.size := b2.lt
  have HW : Hid _ := hW0
  rw [hn] at hcall
  have HBAD : Hid _ := hbad
  have c0 := b0.cell 0
  have c1 := b0.cell 1
  have c2 := b1.cell 0
  clear hW0 hh hki hbad hs2 hsz hn
  obtain ⟨d0, hd0⟩ : ∃ d, (k == 0) = d := ⟨_, rfl⟩
  obtain ⟨d1, hd1⟩ : ∃ d, decide (i < 0) = d := ⟨_, rfl⟩
  obtain ⟨d2, hd2⟩ : ∃ d, decide (1000 < i) = d := ⟨_, rfl⟩
  have hd : (d0 && (d1 || d2)) = false := by rw [← hd0, ← hd1, ← hd2]; exact HBAD.out
  have hd3 : decide (i > 1000) = d2 := hd2
  clear HBAD
  have fin : ∀ (vb vr : Value) (w1 : World) (h1 : Holds w1 (fun b => W0.heap.size ≤ b) ty.args vb) (h2 : HoldsT w1 (fun b => W0.heap.size ≤ b) (etaL ty.args) vr) (hb : Below W0.heap.size W0 w1), ∃ b9 : Blk ((((w1.setCell ⟨N + 2, 0, none⟩ vb).setCell ⟨N + 2, 1, none⟩ (.int .i64 k)).setCell ⟨N + 2, 2, none⟩ (.int .i64 (insI k i n))).setCell ⟨N + 2, 3, none⟩ vr) (N + 2) 34 #[vb, .int .i64 k, .int .i64 (insI k i n), vr], Holds ((((w1.setCell ⟨N + 2, 0, none⟩ vb).setCell ⟨N + 2, 1, none⟩ (.int .i64 k)).setCell ⟨N + 2, 2, none⟩ (.int .i64 (insI k i n))).setCell ⟨N + 2, 3, none⟩ vr) (fun b => N ≤ b) ty.args vb ∧ HoldsT ((((w1.setCell ⟨N + 2, 0, none⟩ vb).setCell ⟨N + 2, 1, none⟩ (.int .i64 k)).setCell ⟨N + 2, 2, none⟩ (.int .i64 (insI k i n))).setCell ⟨N + 2, 3, none⟩ vr) (fun b => N ≤ b) (etaL ty.args) vr ∧ Below N w ((((w1.setCell ⟨N + 2, 0, none⟩ vb).setCell ⟨N + 2, 1, none⟩ (.int .i64 k)).setCell ⟨N + 2, 2, none⟩ (.int .i64 (insI k i n))).setCell ⟨N + 2, 3, none⟩ vr) := fun vb vr w1 h1 h2 hb => by
    have m2 := b2.below hb b2.lt
    refine ⟨(((m2.set 0 vb).set 1 _).set 2 _).set 3 vr, holds_set4 h1 (fun b _ h => ⟨by omega, by omega⟩) _ _ _ _, ?_, ?_⟩
    · refine h2.keep fun b hl ho => ⟨?_, by omega⟩
      have hne : b ≠ N + 2 := by omega
      exact (Below.heap_setCell _ ⟨N + 2, 3, none⟩ _ b hne).trans ((Below.heap_setCell _ ⟨N + 2, 2, none⟩ _ b hne).trans ((Below.heap_setCell _ ⟨N + 2, 1, none⟩ _ b hne).trans (Below.heap_setCell w1 ⟨N + 2, 0, none⟩ _ b hne)))
    · exact bset (bset (bset (bset (bl0.trans (hb.mono (by omega))) (by omega) _) (by omega) _) (by omega) _) (by omega) _
  have FIN : Hid _ := fin
  clear fin
  cases d0 <;> cases d1 <;> cases d2 <;> first
    | (simp at hd; done)
    | (go_enter Try.func47, Try.ntmps47
       go_upto_region 3 with fail
       rw [HW.out]
       clear HW
       go_wp2_with fail
       refine hcall.mono ?_
       rintro e w1 ⟨vb, vr, rfl, h1, h2, hb1⟩
       have m2 := b2.below hb1 b2.lt
       have e0 := m2.cell 0
       have e1 := m2.cell 1
       have e2 := m2.cell 2
       have e3 := m2.cell 3
       have f0 := m2.frozen 0
       have f1 := m2.frozen 1
       have f2 := m2.frozen 2
       have f3 := m2.frozen 3
       obtain ⟨b9, q1, q2, q3⟩ := FIN.out vb vr w1 h1 h2 hb1
       obtain ⟨x1, x2, rfl, _⟩ := h1.shape
       obtain ⟨x3, x4, rfl, _⟩ := h2.shape
       generalize ty.args.length = n1 at *
       generalize (etaL ty.args).length = n2 at *
       clear FIN hcall h1 h2 hb1 b0 b1 b2 c0 c1 c2
       generalize hx : insI k i n = x at *
       have HX : Hid _ := hx
       clear hx
       go_wp2
       generalize (((w1.setCell ⟨N + 2, 0, none⟩ (.slice x1 n1 x2)).setCell ⟨N + 2, 1, none⟩ (.int .i64 k)).setCell ⟨N + 2, 2, none⟩ (.int .i64 x)).setCell ⟨N + 2, 3, none⟩ (.slice x3 n2 x4) = W5 at *
       have g0 : W5.cell? ⟨N + 2, 0, none⟩ = some (.slice x1 n1 x2) := b9.cell 0
       have g1 : W5.cell? ⟨N + 2, 1, none⟩ = some (.int .i64 k) := b9.cell 1
       have g2 : W5.cell? ⟨N + 2, 2, none⟩ = some (.int .i64 x) := b9.cell 2
       have g3 : W5.cell? ⟨N + 2, 3, none⟩ = some (.slice x3 n2 x4) := b9.cell 3
       exact bodyPost_ret (v := tmv (.slice x1 n1 x2) k x (.slice x3 n2 x4)) (by simp [results, Try.results47, go_sem, g0, g1, g2, g3]) rfl ⟨_, _, by rw [HX.out], q1, q2, q3⟩)

theorem Eta_calls (k i : Int) (ty : Ty) (sl : Value) (w : World) (hh : Holds w okT ty.args sl) (hsz : ty.size ≤ 1000000) :
    Calls Try.prog 47 #[hv k i, tv sl ty.base] w fun e w' => ∃ vb vr, e = .returned (tmv vb (etaR k i ty.args).kind (etaR k i ty.args).idx vr) ∧ Holds w' (fun b => w.heap.size ≤ b) (etaR k i ty.args).binds vb ∧ HoldsT w' (fun b => w.heap.size ≤ b) (etaR k i ty.args).args vr ∧ Below w.heap.size w w' := by
  unfold etaR
  cases hb : etaBad k i with
  | true =>
    obtain ⟨a, cap, rfl, _⟩ := hh.shape
    exact (Eta_bad k i ty.base a _ cap w hb).mono fun e w' ⟨h1, h2⟩ => ⟨_, _, h1, Holds.nil _ _ _ _ (fun _ => rfl), HoldsT.nil _ _ _ _ (fun _ => rfl), h2⟩
  | false =>
    rw [if_neg (by simp), etaK_kind, etaK_idx, etaK_binds, etaK_args]
    exact Eta_good k i ty sl w hh hsz hb

end Go.Proofs.Ytheokboggjnenaa
