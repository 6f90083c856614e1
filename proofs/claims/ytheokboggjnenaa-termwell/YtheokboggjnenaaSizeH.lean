/-
  The contracts of term.Size and term.Depth.
-/
import Derived.Test.YtheokboggjnenaaWalkT
namespace Go.Proofs.Ytheokboggjnenaa
open Go Go.RowKit Go.Shelf

attribute [local go_sem] Oper.semAt_some

theorem blk_free {β : Type} {B j : Nat} {t : TypeId} {f : β → Array Value} (hj : j < B) : FreeFrom B (fun s W => Blk W j t (f s)) := fun _ _ _ _ hs hg hr => hs.kept hg (fun e => by have := (hr j e.symm).1; omega)
theorem false_free {β : Type} {B : Nat} : FreeFrom B (fun (_ : β) (_ : World) => False) := fun _ _ _ _ hs _ _ => hs

def ISize (w : World) (N : Nat) (l : List Hd) (W : World) : Prop := Blk W (N + 1) 3 #[.int .i64 (l.length : Int)] ∧ Below N w W

set_option maxRecDepth 100000 in
set_option maxHeartbeats 2000000 in
theorem SizeH_calls (t : Tm) (ok : Nat → Prop) (sb sl : Value) (w : World) (hb : Holds w ok t.binds sb) (hh : HoldsT w ok t.args sl) (hsz : t.total ≤ 900000) :
    Calls Try.prog 14 #[tmv sb t.kind t.idx sl] w fun e w' => e = .returned (.int .i64 (t.size : Int)) ∧ Below w.heap.size w w' := by
  refine (callsIn_wide (n := 9)).1 ?_
  have hf56 : Fence.wide.fn 56 := trivial
  obtain ⟨N, hN⟩ : ∃ N, w.heap.size = N := ⟨_, rfl⟩
  have hst := t.size_le_total
  have hb0 : Holds w (fun b => b < N) t.binds sb := hb.mono fun b h _ => by omega
  have hh0 : HoldsT w (fun b => b < N) t.args sl := hh.mono fun b h _ => by omega
  obtain ⟨x1, x2, hsb, _⟩ := hb.shape
  obtain ⟨x3, x4, hsl, _⟩ := hh.shape
  generalize t.binds.length = bn at hsb
  generalize t.args.length = an at hsl
  subst hsb
  subst hsl
  refine callsIn_of_wp_marks Try.func14 rfl trivial ?_ rfl
  simp only [Try.ntmps14, List.size_toArray, List.length_cons, List.length_nil, Nat.reduceAdd, Nat.reduceSub, Array.replicate_succ, Array.replicate_zero, List.push_toArray, List.append_toArray, List.nil_append, List.cons_append]
  gi_wp2_with (gi_at_call 56; refine (heads_in _ _ _ _ _ _).mono ?_; rintro e w' ⟨rfl, rfl⟩)
  obtain ⟨W0, hW0⟩ : ∃ W0, ((w.alloc (.cells #[.slice x1 bn x2, .int .i64 t.kind, .int .i64 t.idx, .slice x3 an x4] 34)).alloc (.cells #[.int .i64 0] 3)).alloc (.cells #[.slice x1 bn x2, .int .i64 t.kind, .int .i64 t.idx, .slice x3 an x4] 34) = W0 := ⟨_, rfl⟩
  have b1 : Blk W0 (N + 1) 3 #[.int .i64 0] := by rw [← hW0]; exact (Blk.new' _ (N + 1) 3 _ (by simp [hN])).alloc _
  have b2 : Blk W0 (N + 1 + 1) 34 #[.slice x1 bn x2, .int .i64 t.kind, .int .i64 t.idx, .slice x3 an x4] := by rw [← hW0]; exact Blk.new' _ (N + 1 + 1) 34 _ (by simp [hN])
  have hsz0 : W0.heap.size = N + 3 := by rw [← hW0]; simp [hN]
  have hbl : Below N w W0 := by rw [← hW0]; exact (((Below.refl N w).alloc (by omega) _).alloc (by simp; omega) _).alloc (by simp; omega) _
  rw [hW0]
  have HN : Hid (w.heap.size = N) := hN
  clear hW0 hN
  refine range_free rfl (by omega) (gf := 93) (lb := #[.pointer (some ⟨N + 1 + 1, 0, none⟩)]) rfl trivial (enters_of Try.func93 (by kernel_rfl) rfl)
    (heads_stops w (fun b => b < N) N (9 - 1) (N + 1 + 1) (fun _ h => h) t _ _ W0 b2 hb0 hh0 hsz (by omega) (KeepP.of_below (by rw [HN.out]; exact hbl))) (Below.refl _ _) KpT.trans (fun W l o o' hl => KpT.put (n0 := N) (fun _ h => h) W l o o' (by omega)) (fun _ => rfl)
    (ISize w N) (fun _ _ _ => False) (FreeFrom.and (blk_free (by omega)) (freeFrom_below (by rw [HN.out]; exact Nat.le_refl _) (by omega))) (fun _ => false_free) ⟨b1, hbl⟩ ?round ?done ?stop
  case round =>
    rintro l m pre x W K hW hl ⟨c1, hb9⟩ hlen _ hK
    have HN9 := HN.out
    have HL : Hid ((pre ++ [x]).length = pre.length + 1) := by show _ = _; simp
    have hpl : pre.length < 900000 := by omega
    generalize hpn : pre.length = pn at *
    gi_wp2
    refine hK _ _ (KeepsFrom.refl _ _) (fun o o' ho hc _ => ?_)
    have k1 : KpT (fun b => b < N) W (W.putObj l o') := KpT.put (n0 := N) (fun _ h => h) W l o o' (by omega) ho hc
    have c2 := c1.put o' ho hc
    have hb2 : Below N w (W.putObj l o') := (freeFrom_below (β := Unit) (w0 := w) (n0 := N) (B := N) (by omega) (Nat.le_refl _)).put (s := ()) (by omega) ho hc o' hb9
    clear hK ho hc c1 hb9
    generalize W.putObj l o' = W2 at *
    have q0 := c2.cell 0
    have f0 := c2.frozen 0
    gi_wp2
    refine ⟨(KeepsOthers.setCell _ _ _).from _, k1.trans (KpT.set (n0 := N) (fun _ h => h) c2 (by omega) (by decide) (by decide) (by decide) 0 _), ?_, bset hb2 (by omega) _⟩
    have c3 := c2.set 0 (.int .i64 ((pn : Int) + 1))
    unfold Blk at c3 ⊢
    rw [c3, HL.out]
    simp
  case done =>
    rintro D ys W hD rfl ⟨c1, hb9⟩ hK
    have HN9 := HN.out
    rw [t.heads_length] at c1
    have q0 := c1.cell 0
    gi_wp2
    refine ⟨by simp, .inl ⟨_, _, rfl, run_takeDeferred hK, ?_⟩⟩
    refine ⟨.int .i64 (t.size : Int), by simp [results, Try.f14, go_sem], rfl, ?_⟩
    rw [HN.out]
    exact hb9.trans (belowK_b (w := W0) (by omega) W D _ _ hD hK rfl rfl)
  case stop => 
    rintro D c pre W hD hpre h
    exact h.elim

/-- The greatest depth that has come. -/
def hmax : List Hd → Nat
  | [] => 0
  | p :: r => max p.deep (hmax r)
theorem hmax_append (a b : List Hd) : hmax (a ++ b) = max (hmax a) (hmax b) := by
  induction a with
  | nil => simp [hmax]
  | cons p a ih => simp only [List.cons_append, hmax, ih]; omega
theorem hmax_headsT (l : List Tm) (h : ∀ t ∈ l, ∀ d b, 1 ≤ d → hmax (t.heads d b) + 1 = d + t.depth) (d b : Nat) (hd : 1 ≤ d) : max (d - 1) (hmax (headsT d b l)) = d - 1 + depthT l := by
  induction l with
  | nil => simp [headsT, hmax, depthT]
  | cons t r ih =>
    have h1 := h t (by simp) d b hd
    have h2 := ih (fun u hu => h u (by simp [hu]))
    have h3 := t.depth_pos
    simp only [headsT, depthT, hmax_append]
    omega
theorem hmax_heads (t : Tm) : ∀ d b, 1 ≤ d → hmax (t.heads d b) + 1 = d + t.depth := by
  induction t using Tm.ind with
  | h t ih =>
    intro d b hd
    have := hmax_headsT t.args ih (d + 1) (b + t.binds.length) (by omega)
    rw [t.heads_eq, t.depth_eq]
    simp only [hmax]
    omega
theorem hmax_le {l : List Hd} {p : Hd} (h : p ∈ l) : p.deep ≤ hmax l := by
  induction l with
  | nil => cases h
  | cons q l ih =>
    rcases List.mem_cons.1 h with rfl | h
    · simp [hmax]; omega
    · have := ih h; simp [hmax]; omega
theorem hmax_max (l : List Hd) (k : Nat) (h : ∀ p ∈ l, p.deep ≤ k) : hmax l ≤ k := by
  induction l with
  | nil => simp [hmax]
  | cons q l ih =>
    have := h q (by simp)
    have := ih (fun p hp => h p (by simp [hp]))
    simp [hmax]; omega

end Go.Proofs.Ytheokboggjnenaa
