/-
  The contracts of kind.within, and of kind.Size, kind.Depth, kind.Order, kind.Right.
-/
import Derived.Test.YthcncdihgghbjaaWalk
namespace Go.Proofs.Ythcncdihgghbjaa
open Go Go.RowKit Go.Shelf

attribute [local go_sem] Oper.semAt_some

set_option maxRecDepth 100000 in
set_option maxHeartbeats 2000000 in
theorem within_stops (w0 : World) (n0 n Bt : Nat) (t : Ty) (sl : Value) (w : World) (hBt : Blk w Bt 29 #[sl, .int .i64 t.base]) (hh : Holds w0 (fun b => b < n0) t.args sl) (hsz : t.size ≤ 900000) (hn0 : n0 ≤ w.heap.size) (hb : Below n0 w0 w) :
    SeqStopsK Fence.wide n Try.prog 50 #[.pointer (some ⟨Bt, 0, none⟩)] (encI (w0 := w0) (n0 := n0)) (Kp n0) (fun ys => keys ys = t.within 1) (fun pre => keys pre <+: t.within 1) t.size w := fun l J Jx W hW hJ _ hY h0 => by
  have b0 := hBt.below hW hBt.lt
  have hd := t.depth_le_size
  have hp := walk_in w0 n0 l t.size J Jx (fun pre W' o hj => hJ pre W' _ none hj (World.grownBy_alloc W' o none) (fun r e => by cases e)) (fun m pre x W hj hl => yieldAny rfl m (hY pre x W hj hl)) t (n - 1) 1 sl [] W hh (by omega) (by omega) (Nat.le_trans hn0 hW.size) (hb.trans (hW.mono hn0)) h0 (by simp)
  rw [show ((1 : Nat) : Int) = 1 from rfl] at hp
  have c0 := b0.cell 0
  have c1 := b0.cell 1
  have hdd : ∀ k : Nat, (Fence.wide.depth.isSome = true → 1 ≤ k) := fun k h => by cases h
  have hf51 : Fence.wide.fn 51 := trivial
  refine callsIn_of_wp Try.func50 rfl trivial ?_ rfl
  simp only [Try.ntmps50, List.size_toArray, List.length_cons, List.length_nil, Nat.reduceAdd, Nat.reduceSub, Array.replicate_succ, Array.replicate_zero, List.push_toArray, List.append_toArray, List.nil_append, List.cons_append]
  gi_wp2_with ((try refine ⟨hdd _, ?_⟩); gi_at_call 51; refine hp.mono ?_; clear hp; rintro e W1 (⟨rfl, ⟨ys, hys, hJ1⟩, _⟩ | ⟨rfl, q, hq, hx⟩))
  · go_end0
    exact ⟨⟨_, rfl⟩, .inl ⟨_, hys, by simpa using hJ1⟩⟩
  · go_end0
    exact ⟨⟨_, rfl⟩, .inr ⟨q, hq, by simpa using hx⟩⟩

theorem within_in (n : Nat) (s : Value) (b : Int) (w : World) :
    CallsIn Fence.wide n Try.prog 36 #[tv s b] w fun e w' => e = .returned (.func (.func 50) #[] #[.pointer (some ⟨w.heap.size, 0, none⟩)]) ∧ w' = w.alloc (.cells #[s, .int .i64 b] 29) := by
  refine callsIn_of_wp Try.func36 rfl trivial ?_ rfl
  simp only [Try.ntmps36, List.size_toArray, List.length_cons, List.length_nil, Nat.reduceAdd, Nat.reduceSub, Array.replicate_succ, Array.replicate_zero, List.push_toArray, List.append_toArray, List.nil_append, List.cons_append]
  gi_wp2
  go_ret
  exact ⟨rfl, rfl⟩

set_option maxRecDepth 100000 in
set_option maxHeartbeats 2000000 in
theorem kSize_calls (t : Ty) (ok : Nat → Prop) (sl : Value) (w : World) (hh : Holds w ok t.args sl) (hsz : t.size ≤ 900000) :
    Calls Try.prog 13 #[tv sl t.base] w fun e w' => e = .returned (.int .i64 (t.size : Int)) ∧ Below w.heap.size w w' := by
  refine (callsIn_wide (n := 9)).1 ?_
  have h1 : 1 ≤ 9 := by omega
  have hf36 : Fence.wide.fn 36 := trivial
  obtain ⟨N, hN⟩ : ∃ N, w.heap.size = N := ⟨_, rfl⟩
  have hh0 : Holds w (fun b => b < N) t.args sl := hh.mono fun b hb _ => by omega
  obtain ⟨a, cap, hsl, _⟩ := hh.shape
  generalize t.args.length = tn at hsl
  subst hsl
  refine callsIn_of_wp_marks Try.func13 rfl trivial ?_ rfl
  simp only [Try.ntmps13, List.size_toArray, List.length_cons, List.length_nil, Nat.reduceAdd, Nat.reduceSub, Array.replicate_succ, Array.replicate_zero, List.push_toArray, List.append_toArray, List.nil_append, List.cons_append]
  gi_wp2_with (gi_at_call 36; refine (within_in _ _ _ _).mono ?_; rintro e w' ⟨rfl, rfl⟩)
  obtain ⟨W0, hW0⟩ : ∃ W0, ((w.alloc (.cells #[.slice a tn cap, .int .i64 t.base] 29)).alloc (.cells #[.int .i64 0] 3)).alloc (.cells #[.slice a tn cap, .int .i64 t.base] 29) = W0 := ⟨_, rfl⟩
  have b1 : Blk W0 (N + 1) 3 #[.int .i64 0] := by rw [← hW0]; exact (Blk.new' _ (N + 1) 3 _ (by simp [hN])).alloc _
  have b2 : Blk W0 (N + 1 + 1) 29 #[.slice a tn cap, .int .i64 t.base] := by rw [← hW0]; exact Blk.new' _ (N + 1 + 1) 29 _ (by simp [hN])
  have hsz0 : W0.heap.size = N + 3 := by rw [← hW0]; simp [hN]
  have hb : Below N w W0 := by rw [← hW0]; exact (((Below.refl N w).alloc (by simp [hN]) _).alloc (by simp [hN]) _).alloc (by simp [hN]; omega) _
  rw [hW0]
  have HN : Hid (w.heap.size = N) := hN
  clear hW0 hN
  refine wpIn_rangeFunc_ownF rfl h1 (gf := 50) (lb := #[.pointer (some ⟨N + 1 + 1, 0, none⟩)]) rfl trivial (enters_of Try.func50 (by kernel_rfl) rfl)
    (within_stops w N (9 - 1) (N + 1 + 1) t (.slice a tn cap) W0 b2 hh0 hsz (by omega) hb) Kp.trans (Kp.put (by omega)) (Below.refl _ _) (fun _ => rfl)
    (fun pre W => Blk W (N + 1) 3 #[.int .i64 (pre.length : Int)] ∧ Below N w W)
    (fun _ _ _ => False)
    (OwnFrom.and (fun s A B row hs hg hr => hs.own hg (fun r e => (hr r e).2)) (ownFrom_below (by rw [HN.out]; exact Nat.le_refl _) (by omega)))
    (fun _ _ _ _ _ hs _ _ => hs)
    ⟨b1, hb⟩
    (fun x => { tmps := #[tv (.slice a tn cap) t.base, .pointer (some ⟨N, 0, none⟩), .int .i64 0, .pointer (some ⟨N + 1, 0, none⟩), .agg #[.slice a tn cap, .int .i64 t.base], .func (.func 50) #[] #[.pointer (some ⟨N + 1 + 1, 0, none⟩)], .int .i64 (x.d : Int), tv x.s x.t.base, undef, undef, undef], defers := [] }) ?assign ?body ?done ?stop
  case assign =>
    intro l x W K hK
    gi_wp2
    simpa [encI] using hK
  case body =>
    rintro l pre x W ⟨c1, hbl⟩ hlen
    have q := c1.cell 0
    have f := c1.frozen 0
    gi_wp2
    refine ⟨KeepsOthers.setCell _ _ _, Kp.set c1 (by omega) (by decide) (by decide) 0 _, ?_, bset hbl (by omega) _⟩
    have := c1.set 0 (.int .i64 ((pre.length : Int) + 1))
    simpa using this
  case done =>
    rintro D ys W hD hys ⟨c1, hbl⟩ hK
    have hyl : (ys.length : Int) = (t.size : Int) := by
      have := congrArg List.length hys
      rw [keys_length, t.within_length] at this
      omega
    rw [hyl] at c1
    have q := c1.cell 0
    gi_wp2
    refine ⟨by simp, .inl ⟨_, _, rfl, run_takeDeferred hK, ?_⟩⟩
    refine ⟨_, results_tmp rfl _ _ _, rfl, ?_⟩
    rw [HN.out]
    exact hbl.trans (belowK_b (w := W0) (by omega) W D _ _ hD hK rfl rfl)
  case stop =>
    rintro D c pre W _ _ h _
    exact h.elim

-- DEPTH
/-- The greatest depth that has come. -/
def dmax : List (Nat × Ty) → Nat
  | [] => 0
  | p :: r => max p.1 (dmax r)
theorem dmax_append (a b : List (Nat × Ty)) : dmax (a ++ b) = max (dmax a) (dmax b) := by
  induction a with
  | nil => simp [dmax]
  | cons p a ih => simp only [List.cons_append, dmax, ih]; omega
theorem dmax_withinL (l : List Ty) (h : ∀ t ∈ l, ∀ d, 1 ≤ d → dmax (t.within d) + 1 = d + t.depth) (d : Nat) (hd : 1 ≤ d) : max (d - 1) (dmax (withinL d l)) = d - 1 + depthL l := by
  induction l with
  | nil => simp [withinL, dmax, depthL]
  | cons t r ih =>
    have h1 := h t (by simp) d hd
    have h2 := ih (fun u hu => h u (by simp [hu]))
    have h3 := t.depth_pos
    simp only [withinL, depthL, dmax_append]
    omega
theorem dmax_within (t : Ty) : ∀ d, 1 ≤ d → dmax (t.within d) + 1 = d + t.depth := by
  induction t using Ty.ind with
  | h t ih =>
    intro d hd
    have := dmax_withinL t.args ih (d + 1) (by omega)
    rw [t.within_eq, t.depth_eq]
    simp only [dmax]
    omega

set_option maxRecDepth 100000 in
set_option maxHeartbeats 2000000 in
theorem kDepth_calls (t : Ty) (ok : Nat → Prop) (sl : Value) (w : World) (hh : Holds w ok t.args sl) (hsz : t.size ≤ 900000) :
    Calls Try.prog 17 #[tv sl t.base] w fun e w' => e = .returned (.int .i64 (t.depth : Int)) ∧ Below w.heap.size w w' := by
  refine (callsIn_wide (n := 9)).1 ?_
  have h1 : 1 ≤ 9 := by omega
  have hf36 : Fence.wide.fn 36 := trivial
  obtain ⟨N, hN⟩ : ∃ N, w.heap.size = N := ⟨_, rfl⟩
  have hh0 : Holds w (fun b => b < N) t.args sl := hh.mono fun b hb _ => by omega
  obtain ⟨a, cap, hsl, _⟩ := hh.shape
  generalize t.args.length = tn at hsl
  subst hsl
  refine callsIn_of_wp_marks Try.func17 rfl trivial ?_ rfl
  simp only [Try.ntmps17, List.size_toArray, List.length_cons, List.length_nil, Nat.reduceAdd, Nat.reduceSub, Array.replicate_succ, Array.replicate_zero, List.push_toArray, List.append_toArray, List.nil_append, List.cons_append]
  gi_wp2_with (gi_at_call 36; refine (within_in _ _ _ _).mono ?_; rintro e w' ⟨rfl, rfl⟩)
  obtain ⟨W0, hW0⟩ : ∃ W0, ((w.alloc (.cells #[.slice a tn cap, .int .i64 t.base] 29)).alloc (.cells #[.int .i64 0] 3)).alloc (.cells #[.slice a tn cap, .int .i64 t.base] 29) = W0 := ⟨_, rfl⟩
  have b1 : Blk W0 (N + 1) 3 #[.int .i64 0] := by rw [← hW0]; exact (Blk.new' _ (N + 1) 3 _ (by simp [hN])).alloc _
  have b2 : Blk W0 (N + 1 + 1) 29 #[.slice a tn cap, .int .i64 t.base] := by rw [← hW0]; exact Blk.new' _ (N + 1 + 1) 29 _ (by simp [hN])
  have hsz0 : W0.heap.size = N + 3 := by rw [← hW0]; simp [hN]
  have hb : Below N w W0 := by rw [← hW0]; exact (((Below.refl N w).alloc (by simp [hN]) _).alloc (by simp [hN]) _).alloc (by simp [hN]; omega) _
  rw [hW0]
  have HN : Hid (w.heap.size = N) := hN
  clear hW0 hN
  refine wpIn_rangeFunc_ownF rfl h1 (gf := 50) (lb := #[.pointer (some ⟨N + 1 + 1, 0, none⟩)]) rfl trivial (enters_of Try.func50 (by kernel_rfl) rfl)
    (within_stops w N (9 - 1) (N + 1 + 1) t (.slice a tn cap) W0 b2 hh0 hsz (by omega) hb) Kp.trans (Kp.put (by omega)) (Below.refl _ _) (fun _ => rfl)
    (fun pre W => Blk W (N + 1) 3 #[.int .i64 (dmax (keys pre) : Int)] ∧ Below N w W)
    (fun _ _ _ => False)
    (OwnFrom.and (fun s A B row hs hg hr => hs.own hg (fun r e => (hr r e).2)) (ownFrom_below (by rw [HN.out]; exact Nat.le_refl _) (by omega)))
    (fun _ _ _ _ _ hs _ _ => hs)
    ⟨b1, hb⟩
    (fun x => { tmps := #[tv (.slice a tn cap) t.base, .pointer (some ⟨N, 0, none⟩), .int .i64 0, .pointer (some ⟨N + 1, 0, none⟩), .int .i64 (x.d : Int), .agg #[.slice a tn cap, .int .i64 t.base], .func (.func 50) #[] #[.pointer (some ⟨N + 1 + 1, 0, none⟩)], .int .i64 (x.d : Int), tv x.s x.t.base, undef, undef, undef, undef], defers := [] }) ?assign ?body ?done ?stop
  case assign =>
    intro l x W K hK
    simp only [encI] at *
    gi_wp2
    simpa [encI] using hK
  case body =>
    rintro l pre x W ⟨c1, hbl⟩ hlen
    have q := c1.cell 0
    have f := c1.frozen 0
    have hdm : dmax (keys (pre ++ [x])) = max (dmax (keys pre)) x.d := by rw [keys_append, dmax_append]; simp [keys, Item.key, dmax]
    have HD : Hid _ := hdm
    clear hdm
    gi_wp2
    all_goals
      refine ⟨KeepsOthers.setCell _ _ _, Kp.set c1 (by omega) (by decide) (by decide) 0 _, ?_, bset hbl (by omega) _⟩
      have := c1.set 0 (.int .i64 (dmax (keys (pre ++ [x])) : Int))
      rw [HD.out] at this ⊢
      first
        | rwa [Nat.max_eq_right (by omega)] at this ⊢
        | rwa [Nat.max_eq_left (by omega)] at this ⊢
  case done =>
    rintro D ys W hD hys ⟨c1, hbl⟩ hK
    have hyl : (dmax (keys ys) : Int) = (t.depth : Int) := by
      have := dmax_within t 1 (by omega)
      rw [hys]
      omega
    rw [hyl] at c1
    have q := c1.cell 0
    gi_wp2
    refine ⟨by simp, .inl ⟨_, _, rfl, run_takeDeferred hK, ?_⟩⟩
    refine ⟨_, results_tmp rfl _ _ _, rfl, ?_⟩
    rw [HN.out]
    exact hbl.trans (belowK_b (w := W0) (by omega) W D _ _ hD hK rfl rfl)
  case stop =>
    rintro D c pre W _ _ h _
    exact h.elim

end Go.Proofs.Ythcncdihgghbjaa
