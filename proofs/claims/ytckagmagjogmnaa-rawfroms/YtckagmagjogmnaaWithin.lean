/-
  The contracts of kind.within, and of kind.Size, kind.Depth, kind.Order, kind.Right.
-/
import Derived.Test.YtckagmagjogmnaaWalk
namespace Go.Proofs.Ytckagmagjogmnaa
open Go Go.RowKit Go.Shelf

attribute [local go_sem] Oper.semAt_some

set_option maxRecDepth 100000 in
set_option maxHeartbeats 2000000 in
theorem within_stops (w0 : World) (n0 n Bt : Nat) (t : Ty) (sl : Value) (w : World) (hBt : Blk w Bt 32 #[sl, .int .i64 t.base]) (hh : Holds w0 (fun b => b < n0) t.args sl) (hsz : t.size ≤ 900000) (hn0 : n0 ≤ w.heap.size) (hb : Below n0 w0 w) :
    SeqStopsK Fence.wide n Try.prog 101 #[.pointer (some ⟨Bt, 0, none⟩)] (encI (w0 := w0) (n0 := n0)) (Kp n0) (fun ys => keys ys = t.within 1) (fun pre => keys pre <+: t.within 1) t.size w := fun l J Jx W hW hJ _ hY h0 => by
  have b0 := hBt.below hW hBt.lt
  have hd := t.depth_le_size
  have hp := walk_in w0 n0 l t.size J Jx (fun pre W' o hj => hJ pre W' _ none hj (World.grownBy_alloc W' o none) (fun r e => by cases e)) (fun m pre x W hj hl => yieldAny rfl m (hY pre x W hj hl)) t (n - 1) 1 sl [] W hh (by omega) (by omega) (Nat.le_trans hn0 hW.size) (hb.trans (hW.mono hn0)) h0 (by simp)
  rw [show ((1 : Nat) : Int) = 1 from rfl] at hp
  have c0 := b0.cell 0
  have c1 := b0.cell 1
  have hdd : ∀ k : Nat, (Fence.wide.depth.isSome = true → 1 ≤ k) := fun k h => by cases h
  have hf51 : Fence.wide.fn 102 := trivial
  refine callsIn_of_wp Try.func101 rfl trivial ?_ rfl
  simp only [Try.ntmps101, List.size_toArray, List.length_cons, List.length_nil, Nat.reduceAdd, Nat.reduceSub, Array.replicate_succ, Array.replicate_zero, List.push_toArray, List.append_toArray, List.nil_append, List.cons_append]
  gi_wp2_with ((try refine ⟨hdd _, ?_⟩); gi_at_call 102; refine hp.mono ?_; clear hp; rintro e W1 (⟨rfl, ⟨ys, hys, hJ1⟩, _⟩ | ⟨rfl, q, hq, hx⟩))
  · go_end0
    exact ⟨⟨_, rfl⟩, .inl ⟨_, hys, by simpa using hJ1⟩⟩
  · go_end0
    exact ⟨⟨_, rfl⟩, .inr ⟨q, hq, by simpa using hx⟩⟩

theorem within_in (n : Nat) (s : Value) (b : Int) (w : World) :
    CallsIn Fence.wide n Try.prog 87 #[tv s b] w fun e w' => e = .returned (.func (.func 101) #[] #[.pointer (some ⟨w.heap.size, 0, none⟩)]) ∧ w' = w.alloc (.cells #[s, .int .i64 b] 32) := by
  refine callsIn_of_wp Try.func87 rfl trivial ?_ rfl
  simp only [Try.ntmps87, List.size_toArray, List.length_cons, List.length_nil, Nat.reduceAdd, Nat.reduceSub, Array.replicate_succ, Array.replicate_zero, List.push_toArray, List.append_toArray, List.nil_append, List.cons_append]
  gi_wp2
  go_ret
  exact ⟨rfl, rfl⟩

/-- The greatest depth that has come. -/
def dmax : List (Nat × Ty) → Nat
  | [] => 0
  | p :: r => max p.1 (dmax r)
theorem dmax_append (a b : List (Nat × Ty)) : dmax (a ++ b) = max (dmax a) (dmax b) := by
  induction a with
  | nil => simp [dmax]
  | cons p a ih => simp only [List.cons_append, dmax, ih]; omega
theorem dmax_withinL (l : List Ty) (h : ∀ t ∈ l, ∀ d, 1 ≤ d → dmax (t.within d) + 1 = d + t.depth) (d : Nat) (hd : 1 ≤ d) : max (d - 1) (dmax (withinL d l)) = d - 1 + depthL l := by
  induction l with
  | nil => simp [withinL, dmax, depthL]
  | cons t r ih =>
    have h1 := h t (by simp) d hd
    have h2 := ih (fun u hu => h u (by simp [hu]))
    have h3 := t.depth_pos
    simp only [withinL, depthL, dmax_append]
    omega
theorem dmax_within (t : Ty) : ∀ d, 1 ≤ d → dmax (t.within d) + 1 = d + t.depth := by
  induction t using Ty.ind with
  | h t ih =>
    intro d hd
    have := dmax_withinL t.args ih (d + 1) (by omega)
    rw [t.within_eq, t.depth_eq]
    simp only [dmax]
    omega

end Go.Proofs.Ytckagmagjogmnaa
