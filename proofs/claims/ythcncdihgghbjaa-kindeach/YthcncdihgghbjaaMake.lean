/-
  The contracts of kind.Of, kind.Arrow and kind.Rest.
-/
import Derived.Test.YthcncdihgghbjaaFresh
namespace Go.Proofs.Ythcncdihgghbjaa
open Go Go.RowKit

theorem fresh_all {ts : List Ty} (h : sizeL ts ≤ 1000000) : ∀ t ∈ ts, FreshAt t := fun t ht => fresh_calls t (by have := size_mem ht; omega)

set_option maxRecDepth 100000 in
set_option maxHeartbeats 1600000 in
theorem kOf_calls (b : Int) (ts : List Ty) (ok : Nat → Prop) (sl : Value) (w : World) (hh : Holds w ok ts sl) (hsz : sizeL ts ≤ 1000000) :
    Calls Try.prog 25 #[.int .i64 b, sl] w fun e w' => ∃ v, e = .returned (tv v b) ∧ Holds w' (fun b => w.heap.size ≤ b) ts v ∧ Below w.heap.size w w' := by
  have hl := sizeL_length ts
  obtain ⟨a, cap, rfl, _⟩ := hh.shape
  obtain ⟨N, hN⟩ : ∃ N, w.heap.size = N := ⟨_, rfl⟩
  rw [hN]
  have hIH : Hid (∀ u ∈ ts, FreshAt u) := fresh_all hsz
  obtain ⟨W1, hW1⟩ : ∃ W1, (w.alloc (.cells #[.slice none 0 0, .int .i64 0] 29)).alloc (.cells #[.slice a ts.length cap] 27) = W1 := ⟨_, rfl⟩
  have b1 : Blk W1 N 29 #[.slice none 0 0, .int .i64 0] := by rw [← hW1]; exact (Blk.new' _ N 29 _ hN).alloc _
  have b2 : Blk W1 (N + 1) 27 #[.slice a ts.length cap] := by rw [← hW1]; exact Blk.new' _ (N + 1) 27 _ (by simp [hN])
  have hz : W1.heap.size = N + 1 + 1 := by rw [← hW1]; simp [hN]
  have bl0 : Below N w W1 := by rw [← hW1]; exact ((Below.refl N w).alloc (by omega) _).alloc (by simp; omega) _
  have hcall := freshAll_one ok (.slice a ts.length cap) ts (N + 1) W1 (b2.cell 0) (hh.bel (by rw [hN]; exact bl0)) (by omega) hIH.out
  rw [hz] at hcall
  go_enter Try.func25, Try.ntmps25
  go_wp2_with (go_at_call 42; refine hcall.mono ?_; rintro e w2 ⟨v, rfl, hv, hb2⟩; obtain ⟨va, vc, rfl, _⟩ := hv.shape; have hB2 := b1.below hb2 (by omega); have d0 := hB2.cell 0; have d1 := hB2.cell 1; have g0 := hB2.frozen 0; have g1 := hB2.frozen 1)
  have c9 := (hB2.set 0 (.slice va ts.length vc)).set 1 (.int .i64 b)
  have hH9 : Holds ((w2.setCell ⟨N, 0, none⟩ (.slice va ts.length vc)).setCell ⟨N, 1, none⟩ (.int .i64 b)) (fun b => N ≤ b) ts (.slice va ts.length vc) := holds_set2 hv (fun b _ ho => ⟨by omega, by omega⟩) _ _ _ _
  have hB9 : Below N w ((w2.setCell ⟨N, 0, none⟩ (.slice va ts.length vc)).setCell ⟨N, 1, none⟩ (.int .i64 b)) := bset (bset (bl0.trans (hb2.mono (by omega))) (by omega) _) (by omega) _
  clear hv hb2 d0 d1 hB2 g0 g1
  generalize (w2.setCell ⟨N, 0, none⟩ (.slice va ts.length vc)).setCell ⟨N, 1, none⟩ (.int .i64 b) = W5 at *
  have d0 : W5.cell? ⟨N, 0, none⟩ = some (.slice va ts.length vc) := c9.cell 0
  have d1 : W5.cell? ⟨N, 1, none⟩ = some (.int .i64 b) := c9.cell 1
  exact bodyPost_ret (v := tv (.slice va ts.length vc) b) (by simp [results, Try.results25, go_sem, d0, d1]) rfl ⟨_, rfl, hH9, hB9⟩

set_option maxRecDepth 100000 in
set_option maxHeartbeats 1600000 in
theorem Arrow_calls (t : Ty) (us : List Ty) (ok : Nat → Prop) (sl sl' : Value) (w : World) (hh : Holds w ok t.args sl) (hh' : Holds w ok us sl') (hsz : sizeL t.args + sizeL us ≤ 1000000) :
    Calls Try.prog 26 #[tv sl t.base, sl'] w fun e w' => ∃ v, e = .returned (tv v t.base) ∧ Holds w' (fun b => w.heap.size ≤ b) (us ++ t.args) v ∧ Below w.heap.size w w' := by
  obtain ⟨ts, hts⟩ : ∃ ts, t.args = ts := ⟨_, rfl⟩
  rw [hts] at hh hsz ⊢
  have hl := sizeL_length ts
  have hl' := sizeL_length us
  obtain ⟨a, cap, rfl, _⟩ := hh.shape
  obtain ⟨a', cap', rfl, _⟩ := hh'.shape
  obtain ⟨N, hN⟩ : ∃ N, w.heap.size = N := ⟨_, rfl⟩
  rw [hN]
  have hIH : Hid (∀ u, u ∈ us ∨ u ∈ ts → FreshAt u) := fun u hu => hu.elim (fun h => fresh_all (by omega) u h) (fun h => fresh_all (by omega) u h)
  go_enter Try.func26, Try.ntmps26
  go_wp2_with fail
  generalize hw0 : (w.alloc (.cells #[.slice a ts.length cap, .int .i64 t.base] 29)).alloc (.cells #[.slice none 0 0, .int .i64 0] 29) = w0
  have b0 : Blk w0 N 29 #[.slice a ts.length cap, .int .i64 t.base] := by rw [← hw0]; exact (Blk.new' w N 29 _ hN).alloc _
  have b1 : Blk w0 (N + 1) 29 #[.slice none 0 0, .int .i64 0] := by rw [← hw0]; exact Blk.new' _ (N + 1) 29 _ (by simp [hN])
  have hz : w0.heap.size = N + 1 + 1 := by rw [← hw0]; simp [hN]
  have bl0 : Below N w w0 := by rw [← hw0]; exact ((Below.refl N w).alloc (by omega) _).alloc (by simp; omega) _
  have hh0 : Holds w0 ok ts (.slice a ts.length cap) := hh.bel (by rw [hN]; exact bl0)
  have hh1 : Holds w0 ok us (.slice a' us.length cap') := hh'.bel (by rw [hN]; exact bl0)
  clear hw0
  have c0 := b0.cell 0
  have c1 := b0.cell 1
  have s0 := b1.cell 0
  have s1 := b1.cell 1
  have f0 := b1.frozen 0
  have f1 := b1.frozen 1
  have hcall : Hid (∀ d, d = w0.drew → Calls Try.prog 42 #[.slice (some ⟨N + 1 + 1, 0, none⟩) 2 2] (d.alloc (.cells #[.slice a' us.length cap', .slice a ts.length cap] 27)) fun e w' => ∃ va vn vc, e = .returned (.slice va vn vc) ∧ Holds w' (fun b => N + 1 + 1 ≤ b) (us ++ ts) (.slice va vn vc) ∧ Below (N + 1 + 1) w0 w') := by
    rintro d rfl
    have hz' : w0.drew.heap.size = N + 1 + 1 := hz
    have hb := Blk.new' w0.drew (N + 1 + 1) 27 #[.slice a' us.length cap', .slice a ts.length cap] hz'
    refine (freshAll_two ok (.slice a' us.length cap') (.slice a ts.length cap) us ts (N + 1 + 1) _ (hb.cell 0) (hb.cell 1) (hh1.drew.alloc _) (hh0.drew.alloc _) (by omega) hIH.out).mono ?_
    rintro e w' ⟨v, rfl, hv, hb'⟩
    obtain ⟨va, vc, rfl, _⟩ := hv.shape
    refine ⟨va, _, vc, rfl, hv.mono (fun b _ h => by simp at h; omega), ?_⟩
    exact (((Below.refl _ w0).drew).alloc (by show N + 1 + 1 ≤ w0.heap.size; omega) _).trans (hb'.mono (by simp; omega))
  go_region_law (go_simp; go_at_call 42; refine (hcall.out _ rfl).mono ?_; rintro e w2 ⟨va, vn, vc, rfl, hv, hb2⟩; have e1 := (cat hb2 (show N < N + 1 + 1 by omega)).trans c1; have d0 := (cat hb2 (show N + 1 < N + 1 + 1 by omega)).trans s0; have d1 := (cat hb2 (show N + 1 < N + 1 + 1 by omega)).trans s1; have hB2 := b1.below hb2 (by omega); have g0 := hB2.frozen 0; have g1 := hB2.frozen 1)
  all_goals
    have c9 := (hB2.set 0 (.slice va vn vc)).set 1 (.int .i64 t.base)
    have hH9 : Holds ((w2.setCell ⟨N + 1, 0, none⟩ (.slice va vn vc)).setCell ⟨N + 1, 1, none⟩ (.int .i64 t.base)) (fun b => N ≤ b) (us ++ ts) (.slice va vn vc) := holds_set2 hv (fun b _ ho => ⟨by omega, by omega⟩) _ _ _ _
    have hB9 : Below N w ((w2.setCell ⟨N + 1, 0, none⟩ (.slice va vn vc)).setCell ⟨N + 1, 1, none⟩ (.int .i64 t.base)) := bset (bset (bl0.trans (hb2.mono (by omega))) (by omega) _) (by omega) _
    clear hv hb2 e1 d0 d1 hB2 g0 g1
    generalize (w2.setCell ⟨N + 1, 0, none⟩ (.slice va vn vc)).setCell ⟨N + 1, 1, none⟩ (.int .i64 t.base) = W5 at *
    go_wp2
    have d0 : W5.cell? ⟨N + 1, 0, none⟩ = some (.slice va vn vc) := c9.cell 0
    have d1 : W5.cell? ⟨N + 1, 1, none⟩ = some (.int .i64 t.base) := c9.cell 1
    exact bodyPost_ret (v := tv (.slice va vn vc) t.base) (by simp [results, Try.results26, go_sem, d0, d1]) rfl ⟨_, rfl, hH9, hB9⟩

end Go.Proofs.Ythcncdihgghbjaa
