/-
  The contracts of term.freshType and term.HeadType, whose answer is new memory.
-/
import Derived.Test.YtckagmagjogmnaaHeadC
import Derived.Test.YtckagmagjogmnaaEqK
import Derived.Deep.RegionHeld3
import Derived.Deep.DeepCutAuto
namespace Go.Proofs.Ytckagmagjogmnaa
open Go Go.RowKit Go.Sort

def okT : Nat → Prop := fun _ => True
set_option maxRecDepth 100000 in
set_option maxHeartbeats 1000000 in
theorem freshTypeT_calls (t : Ty) (ok : Nat → Prop) (sl : Value) (w : World) (hh : Holds w ok t.args sl) (hsz : t.size ≤ 1000000) :
    Calls Try.prog 105 #[tv sl t.base] w fun e w' => ∃ v, e = .returned (tv v t.base) ∧ Holds w' (fun b => w.heap.size ≤ b) t.args v ∧ Below w.heap.size w w' := by
  obtain ⟨a, cap, hsl, _⟩ := hh.shape
  generalize hn : t.args.length = tn at hsl
  subst hsl
  obtain ⟨N, hN⟩ : ∃ N, w.heap.size = N := ⟨_, rfl⟩
  rw [hN]
  have hsz2 := t.size_eq
  generalize hw1 : (w.alloc (.cells #[.slice a tn cap, .int .i64 t.base] 32)).alloc (.cells #[.slice none 0 0, .int .i64 0] 32) = w1
  have b1 : Blk w1 N 32 #[.slice a tn cap, .int .i64 t.base] := by rw [← hw1]; exact (Blk.new' w N 32 _ hN).alloc _
  have b2 : Blk w1 (N + 1) 32 #[.slice none 0 0, .int .i64 0] := by rw [← hw1]; exact Blk.new' _ (N + 1) 32 _ (by simp [hN])
  have bl1 : Below N w w1 := by rw [← hw1]; exact ((Below.refl N w).alloc (by omega) _).alloc (by simp; omega) _
  have hh1 : Holds w1 ok t.args (.slice a tn cap) := hh.bel (by rw [hN]; exact bl1)
  have c0 := b1.cell 0
  have c1 := b1.cell 1
  have hcall := kOf_calls t.base t.args ok (.slice a tn cap) w1 hh1 (by omega)
  go_enter Try.func105, Try.ntmps105
  go_wp2_with fail
  refine hcall.mono ?_
  rintro e w2 ⟨v2, rfl, hv2, hb2⟩
  obtain ⟨ya, yc, hv, _⟩ := hv2.shape
  rw [hn] at hv
  subst hv
  have b3 := b2.below hb2 b2.lt
  have d0 := b3.cell 0
  have d1 := b3.cell 1
  have f0 := b3.frozen 0
  have f1 := b3.frozen 1
  have hs1 : N + 1 < w1.heap.size := b2.lt
  have hB2 : Below N w w2 := bl1.trans (hb2.mono (by omega))
  have hB3 : Below N w ((w2.setCell ⟨N + 1, 0, none⟩ (.slice ya tn yc)).setCell ⟨N + 1, 1, none⟩ (.int .i64 t.base)) := bset (bset hB2 (by omega) _) (by omega) _
  have hH3 : Holds ((w2.setCell ⟨N + 1, 0, none⟩ (.slice ya tn yc)).setCell ⟨N + 1, 1, none⟩ (.int .i64 t.base)) (fun b => N ≤ b) t.args (.slice ya tn yc) := holds_set2 hv2 (fun b _ ho => ⟨by omega, by omega⟩) _ _ _ _
  have c9 := (b3.set 0 (.slice ya tn yc)).set 1 (.int .i64 t.base)
  go_wp2
  generalize (w2.setCell ⟨N + 1, 0, none⟩ (.slice ya tn yc)).setCell ⟨N + 1, 1, none⟩ (.int .i64 t.base) = W5 at *
  have e0 : W5.cell? ⟨N + 1, 0, none⟩ = some (.slice ya tn yc) := c9.cell 0
  have e1 : W5.cell? ⟨N + 1, 1, none⟩ = some (.int .i64 t.base) := c9.cell 1
  exact bodyPost_ret (v := tv (.slice ya tn yc) t.base) (by simp [results, Try.results105, go_sem, e0, e1]) rfl ⟨_, rfl, hH3, hB3⟩

/-- What HeadType tells: a type in memory from M on, or that there is none. -/
def ToldN (M : Nat) (o : Option Ty) (w' : World) (e : Ending) : Prop :=
  (o = none ∧ e = .returned (.tuple #[tv (.slice none 0 0) 0, .int .i64 10])) ∨ ∃ h a n c, o = some h ∧ Holds w' (fun b => M ≤ b) h.args (.slice a n c) ∧ e = .returned (.tuple #[tv (.slice a n c) h.base, .int .i64 0])

set_option maxRecDepth 100000 in
set_option maxHeartbeats 1600000 in
theorem HeadTypeN_calls (cs ms ctx : List Ty) (bs k i : Int) (cv mv xv : Value) (w : World) (hc : Holds w okT cs cv) (hm : Holds w okT ms mv) (hx : Holds w okT ctx xv) (sc : sizeL cs ≤ 1000000) (sm : sizeL ms ≤ 1000000) (sx : sizeL ctx ≤ 1000000) (hi : i ≤ 9223372036854775807) :
    Calls Try.prog 94 #[wov bs cv mv, xv, hv k i] w fun e w' => ToldN w.heap.size (pickA cs ms ctx k i) w' e ∧ Below w.heap.size w w' := by
  have hlx := sizeL_length ctx
  obtain ⟨c1, c2, rfl, _⟩ := hc.shape
  obtain ⟨m1, m2, rfl, _⟩ := hm.shape
  obtain ⟨a1, a2, rfl, _⟩ := hx.shape
  obtain ⟨N, hN⟩ : ∃ N, w.heap.size = N := ⟨_, rfl⟩
  rw [hN]
  have k73 := fun cur (h : Below N w cur) => find_head bs k i okT cs ms ctx _ _ _ cur (hc.bel (hN ▸ h)) (hm.bel (hN ▸ h)) (hx.bel (hN ▸ h)) (by omega) hi
  have HSZ : Hid (∀ h, pickA cs ms ctx k i = some h → h.size ≤ 1000000) := fun h hh => by
    rcases pickA_mem hh with h1 | h1 | h1
    · have := size_mem h1; omega
    · have := size_mem h1; omega
    · have := size_mem h1; omega
  obtain ⟨o, ho⟩ : ∃ o, pickA cs ms ctx k i = o := ⟨_, rfl⟩
  rw [ho] at HSZ ⊢
  simp only [ho] at k73
  generalize cs.length = cn at *
  generalize ms.length = mn at *
  generalize ctx.length = xn at *
  obtain ⟨W0, hW0⟩ : ∃ W0, ((w.alloc (.cells #[.int .i64 bs, .slice c1 cn c2, .slice m1 mn m2] 57)).alloc (.cells #[.int .i64 k, .int .i64 i] 73)).alloc (.cells #[.slice none 0 0, .int .i64 0] 32) = W0 := ⟨_, rfl⟩
  have b0 : Blk W0 N 57 #[.int .i64 bs, .slice c1 cn c2, .slice m1 mn m2] := by rw [← hW0]; exact ((Blk.new' w N 57 _ hN).alloc _).alloc _
  have b1 : Blk W0 (N + 1) 73 #[.int .i64 k, .int .i64 i] := by rw [← hW0]; exact (Blk.new' _ (N + 1) 73 _ (by simp [hN])).alloc _
  have b2 : Blk W0 (N + 1 + 1) 32 #[.slice none 0 0, .int .i64 0] := by rw [← hW0]; exact Blk.new' _ (N + 1 + 1) 32 _ (by simp [hN])
  have bl0 : Below N w W0 := by rw [← hW0]; exact (((Below.refl N w).alloc (by omega) _).alloc (by simp; omega) _).alloc (by simp; omega) _
  have HW : Hid _ := hW0
  have c0 := b0.cell 0
  have c3 := b0.cell 1
  have c4 := b0.cell 2
  have d0 := b1.cell 0
  have d1 := b1.cell 1
  have k1 := k73 _ bl0
  have hl0 : N + 1 + 1 < W0.heap.size := b2.lt
  clear hW0 k73 hc hm hx b0 b1 hlx ho
  go_enter Try.func94, Try.ntmps94
  go_upto_region 1 with fail
  rw [HW.out]
  clear HW
  go_wp2_with fail
  refine k1.mono ?_
  clear k1
  rintro e w1 ⟨hfo, hb1⟩
  have hB1 : Below N w w1 := bl0.trans (hb1.mono (by omega))
  have e2 := b2.below hb1 b2.lt
  clear b2 bl0 c0 c3 c4 d0 d1
  have hl1 : N + 1 + 1 < w1.heap.size := e2.lt
  rcases hfo with ⟨rfl, rfl⟩ | ⟨h, ha, hn, hcp, rfl, hh, rfl⟩
  · obtain ⟨w2, hw2⟩ : ∃ w2, w1.alloc (.cells #[.slice none 0 0, .int .i64 0] 32) = w2 := ⟨_, rfl⟩
    have hb2 : Below w1.heap.size w1 w2 := by rw [← hw2]; exact (Below.refl _ _).alloc (Nat.le_refl _) _
    have f2 := e2.below hb2 e2.lt
    have hB2 : Below N w w2 := hB1.trans (hb2.mono (by omega))
    have d0 := f2.cell 0
    have d1 := f2.cell 1
    have g0 := f2.frozen 0
    have g1 := f2.frozen 1
    have HW2 : Hid _ := hw2
    have b9 := (f2.set 0 (.slice none 0 0)).set 1 (.int .i64 0)
    have hB9 : Below N w ((w2.setCell ⟨N + 1 + 1, 0, none⟩ (.slice none 0 0)).setCell ⟨N + 1 + 1, 1, none⟩ (.int .i64 0)) := bset (bset hB2 (by omega) _) (by omega) _
    clear hw2 hb1 hb2 e2
    go_upto_region 2 with fail
    rw [HW2.out]
    clear HW2
    go_wp2
    generalize (w2.setCell ⟨N + 1 + 1, 0, none⟩ (.slice none 0 0)).setCell ⟨N + 1 + 1, 1, none⟩ (.int .i64 0) = W5 at *
    have d0 : W5.cell? ⟨N + 1 + 1, 0, none⟩ = some (.slice none 0 0) := b9.cell 0
    have d1 : W5.cell? ⟨N + 1 + 1, 1, none⟩ = some (.int .i64 0) := b9.cell 1
    exact bodyPost_ret (v := .tuple #[tv (.slice none 0 0) 0, .int .i64 10]) (by simp [results, Try.results94, go_sem, d0, d1]) rfl ⟨.inl ⟨rfl, rfl⟩, hB9⟩
  · obtain ⟨w2, hw2⟩ : ∃ w2, w1.alloc (.cells #[.slice ha hn hcp, .int .i64 h.base] 32) = w2 := ⟨_, rfl⟩
    have hb2 : Below w1.heap.size w1 w2 := by rw [← hw2]; exact (Below.refl _ _).alloc (Nat.le_refl _) _
    obtain ⟨Y, hY⟩ : ∃ Y, w1.heap.size = Y := ⟨_, rfl⟩
    have bY : Blk w2 Y 32 #[.slice ha hn hcp, .int .i64 h.base] := by rw [← hw2]; exact Blk.new' w1 Y 32 _ hY
    have f2 := e2.below hb2 e2.lt
    have hB2 : Below N w w2 := hB1.trans (hb2.mono (by omega))
    have hh2 := (hh.bel hb1).bel hb2
    have k2 := freshTypeT_calls h okT (.slice ha hn hcp) w2 hh2 (HSZ.out h rfl)
    have c0 := bY.cell 0
    have c1' := bY.cell 1
    have HW2 : Hid _ := hw2
    have hl2 : N + 1 + 1 < w2.heap.size := f2.lt
    clear hw2 hb1 hb2 e2 hh hh2
    go_upto_region 4 with fail
    rw [HW2.out]
    clear HW2
    go_wp2_with (go_at_call 105; refine k2.mono ?_; rintro e w3 ⟨v3, rfl, hv3, hb3⟩; obtain ⟨va, vc, rfl, _⟩ := hv3.shape; generalize h.args.length = vn at *; have n2 := f2.below hb3 f2.lt; have d0 := n2.cell 0; have d1 := n2.cell 1; have g0 := n2.frozen 0; have g1 := n2.frozen 1)
    have hB3 : Below N w w3 := hB2.trans (hb3.mono (by omega))
    have b9 := (n2.set 0 (.slice va vn vc)).set 1 (.int .i64 h.base)
    have hB9 : Below N w ((w3.setCell ⟨N + 1 + 1, 0, none⟩ (.slice va vn vc)).setCell ⟨N + 1 + 1, 1, none⟩ (.int .i64 h.base)) := bset (bset hB3 (by omega) _) (by omega) _
    have hH9 : Holds ((w3.setCell ⟨N + 1 + 1, 0, none⟩ (.slice va vn vc)).setCell ⟨N + 1 + 1, 1, none⟩ (.int .i64 h.base)) (fun b => N ≤ b) h.args (.slice va vn vc) := holds_set2 hv3 (fun b _ ho => ⟨by omega, by omega⟩) _ _ _ _
    clear d0 d1 g0 g1
    generalize (w3.setCell ⟨N + 1 + 1, 0, none⟩ (.slice va vn vc)).setCell ⟨N + 1 + 1, 1, none⟩ (.int .i64 h.base) = W5 at *
    have d0 : W5.cell? ⟨N + 1 + 1, 0, none⟩ = some (.slice va vn vc) := b9.cell 0
    have d1 : W5.cell? ⟨N + 1 + 1, 1, none⟩ = some (.int .i64 h.base) := b9.cell 1
    exact bodyPost_ret (v := .tuple #[tv (.slice va vn vc) h.base, .int .i64 0]) (by simp [results, Try.results94, go_sem, d0, d1]) rfl ⟨.inr ⟨h, va, vn, vc, rfl, hH9, rfl⟩, hB9⟩

end Go.Proofs.Ytckagmagjogmnaa
