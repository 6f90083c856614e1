/-
  The contracts of strings.Clone and of vocab.freshType.
-/
import Derived.Test.YtdihplmlbfggjaaDoorStrs
import Derived.Test.YtdihplmlbfggjaaDoorShelf
import Derived.Test.YtdihplmlbfggjaaDoorSpine
namespace Go.Proofs.YtdihplmlbfggjaaDoor
open Go Go.RowKit

/-- An operation's own word, inside the wide fence. -/
theorem wpIn_of_wp {n : Nat} {P : Program} {o : Oper} {a : Act} {w : World} {K : Act → World → Prop} {Q : Exit → Act → World → Prop} (h : Oper.wp P o a w K Q) : Oper.wpIn Fence.wide n P o a w K Q := by
  refine ⟨fun _ _ => trivial, ?_⟩
  unfold Oper.wp at h
  show o.uponIn Fence.wide n P a K Q ((o.semAt none a.eval).run P w)
  rw [Oper.semAt_none]
  generalize (execOp a.eval o).run P w = r at *
  cases r with
  | ok x w' =>
    cases x <;> simp only [Oper.upon, Oper.uponIn] at h ⊢
    case value u => exact h
    case skip => exact h
    case defer d => exact h
    case enter f args => exact ⟨(fun h => by cases h), callsIn_wide.2 h⟩
    case row row args => exact ⟨(fun h => by cases h), fun c cs _ => let ⟨v, w'', h1, h2⟩ := h c cs; ⟨v, w'', h1, stepsIn_wide.2 h2⟩⟩
    all_goals exact h.elim
  | halt x w' => cases x <;> simp only [Oper.upon, Oper.uponIn] at h ⊢ <;> exact h

theorem Clone_calls (s : ByteArray) (hs : s.size ≤ 140737488355328) (w : World) : Calls Tryd.prog 36 #[.string s] w fun e w' => e = .returned (.string s) ∧ Below w.heap.size w w' := by
  go_enter Tryd.func36, Tryd.ntmps36
  go_wp2_with (go_at_call 50; refine (Tryd.stringslite_Clone s w (by omega)).mono ?_; rintro e w' ⟨rfl, hb⟩)
  go_ret
  exact ⟨rfl, hb⟩

set_option maxRecDepth 100000 in
set_option maxHeartbeats 1000000 in
theorem freshType_calls (t : Ty) (ok : Nat → Prop) (sl : Value) (w : World) (hh : Holds w ok t.args sl) (hsz : t.size ≤ 1000000) :
    Calls Tryd.prog 43 #[tv sl t.base] w fun e w' => ∃ v, e = .returned (tv v t.base) ∧ Holds w' (fun b => w.heap.size ≤ b) t.args v ∧ Below w.heap.size w w' := by
  obtain ⟨a, cap, hsl, _⟩ := hh.shape
  generalize hn : t.args.length = tn at hsl
  subst hsl
  obtain ⟨N, hN⟩ : ∃ N, w.heap.size = N := ⟨_, rfl⟩
  rw [hN]
  have hsz2 := t.size_eq
  generalize hw1 : (w.alloc (.cells #[.slice a tn cap, .int .i64 t.base] 45)).alloc (.cells #[.slice none 0 0, .int .i64 0] 45) = w1
  have b1 : Blk w1 N 45 #[.slice a tn cap, .int .i64 t.base] := by rw [← hw1]; exact (Blk.new' w N 45 _ hN).alloc _
  have b2 : Blk w1 (N + 1) 45 #[.slice none 0 0, .int .i64 0] := by rw [← hw1]; exact Blk.new' _ (N + 1) 45 _ (by simp [hN])
  have bl1 : Below N w w1 := by rw [← hw1]; exact ((Below.refl N w).alloc (by omega) _).alloc (by simp; omega) _
  have hh1 : Holds w1 ok t.args (.slice a tn cap) := hh.bel (by rw [hN]; exact bl1)
  have c0 := b1.cell 0
  have c1 := b1.cell 1
  have hcall := kOf_calls t.base t.args ok (.slice a tn cap) w1 hh1 (by omega)
  go_enter Tryd.func43, Tryd.ntmps43
  go_wp2_with fail
  refine hcall.mono ?_
  rintro e w2 ⟨v2, rfl, hv2, hb2⟩
  obtain ⟨ya, yc, hv, _⟩ := hv2.shape
  rw [hn] at hv
  subst hv
  have b3 := b2.below hb2 b2.lt
  have d0 := b3.cell 0
  have d1 := b3.cell 1
  have f0 := b3.frozen 0
  have f1 := b3.frozen 1
  have hs1 : N + 1 < w1.heap.size := b2.lt
  have hB2 : Below N w w2 := bl1.trans (hb2.mono (by omega))
  have hB3 : Below N w ((w2.setCell ⟨N + 1, 0, none⟩ (.slice ya tn yc)).setCell ⟨N + 1, 1, none⟩ (.int .i64 t.base)) := bset (bset hB2 (by omega) _) (by omega) _
  have hH3 : Holds ((w2.setCell ⟨N + 1, 0, none⟩ (.slice ya tn yc)).setCell ⟨N + 1, 1, none⟩ (.int .i64 t.base)) (fun b => N ≤ b) t.args (.slice ya tn yc) := holds_set2 hv2 (fun b _ ho => ⟨by omega, by omega⟩) _ _ _ _
  have c9 := (b3.set 0 (.slice ya tn yc)).set 1 (.int .i64 t.base)
  go_wp2
  generalize (w2.setCell ⟨N + 1, 0, none⟩ (.slice ya tn yc)).setCell ⟨N + 1, 1, none⟩ (.int .i64 t.base) = W5 at *
  have e0 : W5.cell? ⟨N + 1, 0, none⟩ = some (.slice ya tn yc) := c9.cell 0
  have e1 : W5.cell? ⟨N + 1, 1, none⟩ = some (.int .i64 t.base) := c9.cell 1
  exact bodyPost_ret (v := tv (.slice ya tn yc) t.base) (by simp [results, Tryd.results43, go_sem, e0, e1]) rfl ⟨_, rfl, hH3, hB3⟩

end Go.Proofs.YtdihplmlbfggjaaDoor
