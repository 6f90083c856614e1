/-
  The contract of slices.Clone of types.
-/
import Derived.Test.YtckagmagjogmnaaFresh
namespace Go.Proofs.Ytckagmagjogmnaa
open Go Go.RowKit

set_option maxRecDepth 100000 in
set_option maxHeartbeats 1600000 in
theorem CloneTy_calls (ts : List Ty) (ok : Nat → Prop) (sl : Value) (w : World) (hh : Holds w ok ts sl) (hl : ts.length ≤ 1000000) :
    Calls Try.prog 53 #[sl] w fun e w' => ∃ v ps, e = .returned v ∧ w'.ownsRow w.heap.size 32 2 v ps.length (pcells ps) ∧ ps.map (·.2) = ts ∧ (∀ p ∈ ps, Holds w ok p.2.args p.1) ∧ Below w.heap.size w w' := by
  obtain ⟨i0, hi, hz0, hz1, hz2⟩ := info_parts info29'
  obtain ⟨pa, pc, rfl, _⟩ := hh.shape
  obtain ⟨N, hN⟩ : ∃ N, w.heap.size = N := ⟨_, rfl⟩
  rw [hN]
  cases pa with
  | none =>
    obtain ⟨e0, e1, e2⟩ := hh.isnil
    subst e2
    have e3 : pc = 0 := e1
    subst e3
    clear hh e0 e1
    have hn : ∀ w, Sem.run Try.prog (binOp BinOp.eql 30 (.slice none 0 0) (.slice none 0 0)) w = .ok (.bool true) w := fun w => by kernel_rfl
    go_enter Try.func53, Try.ntmps53
    go_wp2
    go_ret
    exact ⟨_, [], rfl, World.ownsRow_nil w N 32 2, rfl, (fun p hp => by cases hp), hN ▸ Below.refl _ _⟩
  | some ad =>
    obtain ⟨qs, hq1, hq2, hq3, hq4⟩ : ∃ qs : List (Value × Ty), qs.map (·.2) = ts ∧ (∀ p ∈ qs, Holds w ok p.2.args p.1) ∧ (∀ j u, (pcells qs)[j]? = some u → w.cell? (ad.add j) = some u) ∧ ∀ u ∈ pcells qs, u.oneCell' = true := by
      cases hpe : ts with
      | nil => exact ⟨[], rfl, fun p hp => (by cases hp), fun j u h => by simp [pcells] at h, fun u h => by simp [pcells] at h⟩
      | cons t r =>
        obtain ⟨a', cap', e1, _, hat⟩ := hh.shape
        obtain ⟨g, o, _, e2, _⟩ := hat 0 t (by rw [hpe]; rfl)
        cases e1
        cases e2
        obtain ⟨_, qs, h1, h2, h3, h4⟩ := hh.row
        exact ⟨qs, by rw [← hpe]; exact h1, h2, fun j u hj => by have := h3 j u hj; rwa [show (⟨g, o, none⟩ : Addr).add j = ⟨g, o + j, none⟩ by simp [Addr.add]], h4⟩
    have hql : qs.length = ts.length := by rw [← hq1, List.length_map]
    rw [← hql] at hl ⊢
    have HQ : Hid (qs.map (·.2) = ts) := hq1
    have HK : Hid _ := hq2
    clear hh hq1 hq2 hql
    have hn : ∀ (n c : Nat) w, Sem.run Try.prog (binOp BinOp.eql 30 (.slice (some ad) n c) (.slice none 0 0)) w = .ok (.bool false) w := fun n c w => by kernel_rfl
    obtain ⟨W0, hW0⟩ : ∃ W0, w.alloc (.cells #[] 32) = W0 := ⟨_, rfl⟩
    have hrow : W0.ownsRow N 32 2 (.slice (some ⟨N, 0, none⟩) 0 0) 0 (pcells []) := by
      have hb0 := Blk.new' w N 32 #[] hN
      rw [hW0] at hb0
      exact ⟨rfl, .inr ⟨N, 0, #[], rfl, Nat.le_refl _, hb0, Nat.le_refl _, Nat.zero_le _, rfl, rfl⟩⟩
    have hbl : Below N w W0 := by rw [← hW0]; exact (Below.refl N w).alloc (by omega) _
    have hq5 : ∀ j u, (pcells qs)[j]? = some u → W0.cell? (ad.add j) = some u := fun j u hj => by
      have h0 := hq3 j u hj
      exact (hbl.cell (p := ad.add j) (by have := lt_of_cell h0; omega)).trans h0
    have hNw : N ≤ W0.heap.size := by have := hbl.size; omega
    have HW : Hid _ := hW0
    clear hW0 hq3
    go_enter Try.func53, Try.ntmps53
    go_wp2_with (at_builtin; rw [HW.out]; refine wpList_append_own _ rfl _ _ 30 rfl N 32 i0 _ 2 32 Try.underlying30 hi hz0 hz1 hz2 rfl (by decide) _ 0 (pcells []) rfl hrow ad qs.length pc (pcells qs) rfl (pcells_length qs) hq5 hq4 (by unfold maxLen; omega) (by omega) hNw ?_; intro v2 w2 hown2 hgrow2 _)
    have hb2 : Below N w w2 := hbl.grown hgrow2 (by omega) (fun j hj => (hrow.lt j hj).1)
    clear hgrow2
    go_wp2
    go_ret
    exact ⟨v2, qs, rfl, by simpa [pcells] using hown2, HQ.out, HK.out, hb2⟩

end Go.Proofs.Ytckagmagjogmnaa
