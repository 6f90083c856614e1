/-
  The contracts of kind.Of, kind.Arrow and kind.Rest.
-/
import Derived.Test.YtckagmagjogmnaaFresh
namespace Go.Proofs.Ytckagmagjogmnaa
open Go Go.RowKit

theorem fresh_all {ts : List Ty} (h : sizeL ts ≤ 1000000) : ∀ t ∈ ts, FreshAt t := fun t ht => fresh_calls t (by have := size_mem ht; omega)

set_option maxRecDepth 100000 in
set_option maxHeartbeats 1600000 in
theorem kOf_calls (b : Int) (ts : List Ty) (ok : Nat → Prop) (sl : Value) (w : World) (hh : Holds w ok ts sl) (hsz : sizeL ts ≤ 1000000) :
    Calls Try.prog 40 #[.int .i64 b, sl] w fun e w' => ∃ v, e = .returned (tv v b) ∧ Holds w' (fun b => w.heap.size ≤ b) ts v ∧ Below w.heap.size w w' := by
  have hl := sizeL_length ts
  obtain ⟨a, cap, rfl, _⟩ := hh.shape
  obtain ⟨N, hN⟩ : ∃ N, w.heap.size = N := ⟨_, rfl⟩
  rw [hN]
  have hIH : Hid (∀ u ∈ ts, FreshAt u) := fresh_all hsz
  obtain ⟨W1, hW1⟩ : ∃ W1, (w.alloc (.cells #[.slice none 0 0, .int .i64 0] 32)).alloc (.cells #[.slice a ts.length cap] 30) = W1 := ⟨_, rfl⟩
  have b1 : Blk W1 N 32 #[.slice none 0 0, .int .i64 0] := by rw [← hW1]; exact (Blk.new' _ N 32 _ hN).alloc _
  have b2 : Blk W1 (N + 1) 30 #[.slice a ts.length cap] := by rw [← hW1]; exact Blk.new' _ (N + 1) 30 _ (by simp [hN])
  have hz : W1.heap.size = N + 1 + 1 := by rw [← hW1]; simp [hN]
  have bl0 : Below N w W1 := by rw [← hW1]; exact ((Below.refl N w).alloc (by omega) _).alloc (by simp; omega) _
  have hcall := freshAll_one ok (.slice a ts.length cap) ts (N + 1) W1 (b2.cell 0) (hh.bel (by rw [hN]; exact bl0)) (by omega) hIH.out
  rw [hz] at hcall
  go_enter Try.func40, Try.ntmps40
  go_wp2_with (go_at_call 67; refine hcall.mono ?_; rintro e w2 ⟨v, rfl, hv, hb2⟩; obtain ⟨va, vc, rfl, _⟩ := hv.shape; have hB2 := b1.below hb2 (by omega); have d0 := hB2.cell 0; have d1 := hB2.cell 1; have g0 := hB2.frozen 0; have g1 := hB2.frozen 1)
  have c9 := (hB2.set 0 (.slice va ts.length vc)).set 1 (.int .i64 b)
  have hH9 : Holds ((w2.setCell ⟨N, 0, none⟩ (.slice va ts.length vc)).setCell ⟨N, 1, none⟩ (.int .i64 b)) (fun b => N ≤ b) ts (.slice va ts.length vc) := holds_set2 hv (fun b _ ho => ⟨by omega, by omega⟩) _ _ _ _
  have hB9 : Below N w ((w2.setCell ⟨N, 0, none⟩ (.slice va ts.length vc)).setCell ⟨N, 1, none⟩ (.int .i64 b)) := bset (bset (bl0.trans (hb2.mono (by omega))) (by omega) _) (by omega) _
  clear hv hb2 d0 d1 hB2 g0 g1
  generalize (w2.setCell ⟨N, 0, none⟩ (.slice va ts.length vc)).setCell ⟨N, 1, none⟩ (.int .i64 b) = W5 at *
  have d0 : W5.cell? ⟨N, 0, none⟩ = some (.slice va ts.length vc) := c9.cell 0
  have d1 : W5.cell? ⟨N, 1, none⟩ = some (.int .i64 b) := c9.cell 1
  exact bodyPost_ret (v := tv (.slice va ts.length vc) b) (by simp [results, Try.results40, go_sem, d0, d1]) rfl ⟨_, rfl, hH9, hB9⟩

end Go.Proofs.Ytckagmagjogmnaa
