/-
  The contracts of the document's Eta and Var.
-/
import Derived.Test.YtheokboggjnenaaEtaRef
import Derived.Test.YtheokboggjnenaaSameT
namespace Go.Proofs.Ytheokboggjnenaa
open Go Go.RowKit Go.Sort

set_option maxRecDepth 100000 in
set_option maxHeartbeats 1000000 in
theorem RefEta_bad (k i : Int) (b : Int) (a : Option Addr) (n cap : Nat) (w : World) (hbad : etaBad k i = true) :
    Calls Try.prog 48 #[hv k i, tv (.slice a n cap) b] w fun e w' => e = .returned (tmv (.slice none 0 0) 0 0 (.slice none 0 0)) ∧ Below w.heap.size w w' := by
  obtain ⟨N, hN⟩ : ∃ N, w.heap.size = N := ⟨_, rfl⟩
  rw [hN]
  obtain ⟨W0, hW0⟩ : ∃ W0, ((w.alloc (.cells #[.int .i64 k, .int .i64 i] 24)).alloc (.cells #[.slice a n cap, .int .i64 b] 55)).alloc (.cells #[.slice none 0 0, .int .i64 0, .int .i64 0, .slice none 0 0] 27) = W0 := ⟨_, rfl⟩
  have b2 : Blk W0 (N + 2) 27 #[.slice none 0 0, .int .i64 0, .int .i64 0, .slice none 0 0] := by rw [← hW0]; exact Blk.new' _ (N + 2) 27 _ (by simp [hN])
  have bl0 : Below N w W0 := by rw [← hW0]; exact (((Below.refl N w).alloc (by omega) _).alloc (by simp; omega) _).alloc (by simp; omega) _
  have HW : Hid _ := hW0
  clear hW0
  have hk : k = 0 := by unfold etaBad at hbad; simp at hbad; exact hbad.1
  subst hk
  obtain ⟨d1, hd1⟩ : ∃ d, decide (i < 0) = d := ⟨_, rfl⟩
  obtain ⟨d2, hd2⟩ : ∃ d, decide (1000 < i) = d := ⟨_, rfl⟩
  have hd : (d1 || d2) = true := by unfold etaBad at hbad; rw [hd1, hd2] at hbad; simpa using hbad
  have hd3 : decide (i > 1000) = d2 := hd2
  clear hbad
  cases d1 <;> cases d2 <;> first
    | (simp at hd; done)
    | (go_enter Try.func48, Try.ntmps48
       go_wp2
       rw [HW.out]
       clear HW
       have g0 := b2.cell 0
       have g1 := b2.cell 1
       have g2 := b2.cell 2
       have g3 := b2.cell 3
       exact bodyPost_ret (v := tmv (.slice none 0 0) 0 0 (.slice none 0 0)) (by simp [results, Try.results48, go_sem, g0, g1, g2, g3]) rfl ⟨rfl, bl0⟩)

set_option maxRecDepth 100000 in
set_option maxHeartbeats 1000000 in
theorem RefEta_good (k i : Int) (ty : Ty) (sl : Value) (w : World) (hh : Holds w okT ty.args sl) (hsz : ty.size ≤ 1000000) (hbad : etaBad k i = false) :
    Calls Try.prog 48 #[hv k i, tv sl ty.base] w fun e w' => ∃ vb vr, e = .returned (tmv vb k (insI k i ty.args.length) vr) ∧ Holds w' okT ty.args vb ∧ HoldsT w' okT (etaL ty.args) vr ∧ Below w.heap.size w w' := by
  obtain ⟨N, hN⟩ : ∃ N, w.heap.size = N := ⟨_, rfl⟩
  rw [hN]
  have hs2 := ty.size_eq
  have hki : k = 0 → 0 ≤ i ∧ i ≤ 2000000 := fun h => by
    unfold etaBad at hbad
    simp [h] at hbad
    omega
  obtain ⟨a, cap, rfl, _⟩ := hh.shape
  generalize hn : ty.args.length = n at *
  obtain ⟨W0, hW0⟩ : ∃ W0, ((w.alloc (.cells #[.int .i64 k, .int .i64 i] 24)).alloc (.cells #[.slice a n cap, .int .i64 ty.base] 55)).alloc (.cells #[.slice none 0 0, .int .i64 0, .int .i64 0, .slice none 0 0] 27) = W0 := ⟨_, rfl⟩
  have b0 : Blk W0 N 24 #[.int .i64 k, .int .i64 i] := by rw [← hW0]; exact ((Blk.new' w N 24 _ hN).alloc _).alloc _
  have b1 : Blk W0 (N + 1) 55 #[.slice a n cap, .int .i64 ty.base] := by rw [← hW0]; exact (Blk.new' _ (N + 1) 55 _ (by simp [hN])).alloc _
  have b2 : Blk W0 (N + 2) 27 #[.slice none 0 0, .int .i64 0, .int .i64 0, .slice none 0 0] := by rw [← hW0]; exact Blk.new' _ (N + 2) 27 _ (by simp [hN])
  have bl0 : Below N w W0 := by rw [← hW0]; exact (((Below.refl N w).alloc (by omega) _).alloc (by simp; omega) _).alloc (by simp; omega) _
  have hcall := eta_calls ty.args (fun b => b < N) _ W0 k i ty.base ((hh.mono (ok' := fun b => b < N) (fun b h1 _ => by omega)).bel (hN ▸ bl0)) (by omega) (fun h => by have := hki h; omega) (fun h => by have := hki h; have := sizeL_length ty.args; omega)
  have hz : N + 2 < W0.heap.size := b2.lt
  have HW : Hid _ := hW0
  rw [hn] at hcall
  have HBAD : Hid _ := hbad
  have c0 := b0.cell 0
  have c1 := b0.cell 1
  have c2 := b1.cell 0
  have c2' := b1.cell 1
  clear hW0 hh hki hbad hs2 hsz hn
  obtain ⟨d0, hd0⟩ : ∃ d, (k == 0) = d := ⟨_, rfl⟩
  obtain ⟨d1, hd1⟩ : ∃ d, decide (i < 0) = d := ⟨_, rfl⟩
  obtain ⟨d2, hd2⟩ : ∃ d, decide (1000 < i) = d := ⟨_, rfl⟩
  have hd : (d0 && (d1 || d2)) = false := by rw [← hd0, ← hd1, ← hd2]; exact HBAD.out
  have hd3 : decide (i > 1000) = d2 := hd2
  clear HBAD
  have fin : ∀ (vb vr : Value) (w1 : World) (h1 : Holds w1 (fun b => b < N ∨ W0.heap.size ≤ b) ty.args vb) (h2 : HoldsT w1 (fun b => b < N ∨ W0.heap.size ≤ b) (etaL ty.args) vr) (hb : Below W0.heap.size W0 w1), ∃ b9 : Blk ((((w1.setCell ⟨N + 2, 0, none⟩ vb).setCell ⟨N + 2, 1, none⟩ (.int .i64 k)).setCell ⟨N + 2, 2, none⟩ (.int .i64 (insI k i n))).setCell ⟨N + 2, 3, none⟩ vr) (N + 2) 27 #[vb, .int .i64 k, .int .i64 (insI k i n), vr], Holds ((((w1.setCell ⟨N + 2, 0, none⟩ vb).setCell ⟨N + 2, 1, none⟩ (.int .i64 k)).setCell ⟨N + 2, 2, none⟩ (.int .i64 (insI k i n))).setCell ⟨N + 2, 3, none⟩ vr) okT ty.args vb ∧ HoldsT ((((w1.setCell ⟨N + 2, 0, none⟩ vb).setCell ⟨N + 2, 1, none⟩ (.int .i64 k)).setCell ⟨N + 2, 2, none⟩ (.int .i64 (insI k i n))).setCell ⟨N + 2, 3, none⟩ vr) okT (etaL ty.args) vr ∧ Below N w ((((w1.setCell ⟨N + 2, 0, none⟩ vb).setCell ⟨N + 2, 1, none⟩ (.int .i64 k)).setCell ⟨N + 2, 2, none⟩ (.int .i64 (insI k i n))).setCell ⟨N + 2, 3, none⟩ vr) := fun vb vr w1 h1 h2 hb => by
    have m2 := b2.below hb b2.lt
    refine ⟨(((m2.set 0 vb).set 1 _).set 2 _).set 3 vr, holds_set4 h1 (fun b _ h => ⟨by omega, trivial⟩) _ _ _ _, ?_, ?_⟩
    · refine h2.keep fun b hl ho => ⟨?_, trivial⟩
      have hne : b ≠ N + 2 := by omega
      exact (Below.heap_setCell _ ⟨N + 2, 3, none⟩ _ b hne).trans ((Below.heap_setCell _ ⟨N + 2, 2, none⟩ _ b hne).trans ((Below.heap_setCell _ ⟨N + 2, 1, none⟩ _ b hne).trans (Below.heap_setCell w1 ⟨N + 2, 0, none⟩ _ b hne)))
    · exact bset (bset (bset (bset (bl0.trans (hb.mono (by omega))) (by omega) _) (by omega) _) (by omega) _) (by omega) _
  have FIN : Hid _ := fin
  clear fin
  cases d0 <;> cases d1 <;> cases d2 <;> first
    | (simp at hd; done)
    | (go_enter Try.func48, Try.ntmps48
       go_upto_region 3 with fail
       rw [HW.out]
       clear HW
       go_wp2_with fail
       refine hcall.mono ?_
       rintro e w1 ⟨vb, vr, rfl, h1, h2, hb1⟩
       have m2 := b2.below hb1 b2.lt
       have e0 := m2.cell 0
       have e1 := m2.cell 1
       have e2 := m2.cell 2
       have e3 := m2.cell 3
       have f0 := m2.frozen 0
       have f1 := m2.frozen 1
       have f2 := m2.frozen 2
       have f3 := m2.frozen 3
       obtain ⟨b9, q1, q2, q3⟩ := FIN.out vb vr w1 h1 h2 hb1
       obtain ⟨x1, x2, rfl, _⟩ := h1.shape
       obtain ⟨x3, x4, rfl, _⟩ := h2.shape
       generalize ty.args.length = n1 at *
       generalize (etaL ty.args).length = n2 at *
       clear FIN hcall h1 h2 hb1 b0 b1 b2 c0 c1 c2 c2'
       generalize hx : insI k i n = x at *
       have HX : Hid _ := hx
       clear hx
       go_wp2
       generalize (((w1.setCell ⟨N + 2, 0, none⟩ (.slice x1 n1 x2)).setCell ⟨N + 2, 1, none⟩ (.int .i64 k)).setCell ⟨N + 2, 2, none⟩ (.int .i64 x)).setCell ⟨N + 2, 3, none⟩ (.slice x3 n2 x4) = W5 at *
       have g0 : W5.cell? ⟨N + 2, 0, none⟩ = some (.slice x1 n1 x2) := b9.cell 0
       have g1 : W5.cell? ⟨N + 2, 1, none⟩ = some (.int .i64 k) := b9.cell 1
       have g2 : W5.cell? ⟨N + 2, 2, none⟩ = some (.int .i64 x) := b9.cell 2
       have g3 : W5.cell? ⟨N + 2, 3, none⟩ = some (.slice x3 n2 x4) := b9.cell 3
       exact bodyPost_ret (v := tmv (.slice x1 n1 x2) k x (.slice x3 n2 x4)) (by simp [results, Try.results48, go_sem, g0, g1, g2, g3]) rfl ⟨_, _, by rw [HX.out], q1, q2, q3⟩)

theorem RefEta_calls (k i : Int) (ty : Ty) (sl : Value) (w : World) (hh : Holds w okT ty.args sl) (hsz : ty.size ≤ 1000000) :
    Calls Try.prog 48 #[hv k i, tv sl ty.base] w fun e w' => ∃ vb vr, e = .returned (tmv vb (etaR k i ty.args).kind (etaR k i ty.args).idx vr) ∧ Holds w' okT (etaR k i ty.args).binds vb ∧ HoldsT w' okT (etaR k i ty.args).args vr ∧ Below w.heap.size w w' := by
  unfold etaR
  cases hb : etaBad k i with
  | true =>
    obtain ⟨a, cap, rfl, _⟩ := hh.shape
    exact (RefEta_bad k i ty.base a _ cap w hb).mono fun e w' ⟨h1, h2⟩ => ⟨_, _, h1, Holds.nil _ _ _ _ (fun _ => rfl), HoldsT.nil _ _ _ _ (fun _ => rfl), h2⟩
  | false =>
    rw [if_neg (by simp), etaK_kind, etaK_idx, etaK_binds, etaK_args]
    exact RefEta_good k i ty sl w hh hsz hb


end Go.Proofs.Ytheokboggjnenaa
