/-
  CallR: several texts in one file: BindR, CallR.
-/
import Derived.Stop.RegionWithIn
import Derived.Test.YtckagmagjogmnaaApply
import Derived.Deep.RegionWith
import Derived.Deep.DeepCutAuto
namespace Go.Proofs.Ytckagmagjogmnaa
open Go Go.RowKit Go.Shelf

attribute [local go_sem] Oper.semAt_some

/-- within a Lam of each type, the last one innermost -/
def lamsR (b : Rw) : List Ty → Rw
  | [] => b
  | t :: r => lamR t (lamsR b r)
/-- within a Lam of each, the first one innermost -/
def wrapR (b : Rw) (l : List Ty) : Rw := l.foldl (fun b t => lamR t b) b
theorem wrapR_snoc (b : Rw) (l : List Ty) (t : Ty) : wrapR b (l ++ [t]) = lamR t (wrapR b l) := by unfold wrapR; rw [List.foldl_append]; rfl
theorem wrapR_reverse (b : Rw) (l : List Ty) : wrapR b l.reverse = lamsR b l := by
  induction l with
  | nil => rfl
  | cons t r ih => rw [List.reverse_cons, wrapR_snoc, ih]; rfl

/-- What bind's rounds keep. -/
def IBind (w : World) (N L : Nat) (b : Rw) (W : World) : Prop := ∃ x1 n1 x2 x3 n2 x4, Blk W N 35 #[.int .i64 b.kind, .slice x1 n1 x2, .int .i64 b.ty.base, .int .i64 b.idx, .slice x3 n2 x4] ∧ Holds W (fun b => L ≤ b ∧ b ≠ N ∧ b ≠ N + 1) b.ty.args (.slice x1 n1 x2) ∧ HoldsR W (fun b => L ≤ b ∧ b ≠ N ∧ b ≠ N + 1) b.kids (.slice x3 n2 x4) ∧ Blk W (N + 1) 35 #[.int .i64 0, .slice none 0 0, .int .i64 0, .int .i64 0, .slice none 0 0] ∧ Below N w W
theorem IBind.free {w : World} {N L M : Nat} {b : Rw} {A B : World} {row : Option Nat} (h : IBind w N L b A) (hg : A.grownBy B row) (hr : Turned M A row) (hM : N ≤ M) : IBind w N L b B := by
  obtain ⟨x1, n1, x2, x3, n2, x4, h1, h2, h3, h4, h5⟩ := h
  have hr' := fun r e => (hr r e).2
  exact ⟨x1, n1, x2, x3, n2, x4, h1.own hg hr', h2.own hg hr', h3.own hg hr', h4.own hg hr', h5.grown hg (by have := h1.lt; omega) (fun j e => by have := (hr j e).1; omega)⟩

theorem bind_fin {w W2 V : World} {N L Bk M : Nat} {bb : Rw} {u : Ty} {z1 : Option Addr} {m1 z2 : Nat} {z3 : Option Addr} {m2 z4 : Nat} {ua : Option Addr} {un uc : Nat} (hO : Only [N] W2 V) (h0 : Blk W2 N 35 #[.int .i64 bb.kind, .slice z1 m1 z2, .int .i64 bb.ty.base, .int .i64 bb.idx, .slice z3 m2 z4]) (h1 : Blk W2 (N + 1) 35 #[.int .i64 0, .slice none 0 0, .int .i64 0, .int .i64 0, .slice none 0 0])
    (hbv : Holds W2 (fun b => L ≤ b ∧ b ≠ N ∧ b ≠ N + 1) bb.ty.args (.slice z1 m1 z2)) (hrv : HoldsR W2 (fun b => L ≤ b ∧ b ≠ N ∧ b ≠ N + 1) bb.kids (.slice z3 m2 z4)) (hL : L ≤ N) (hbl : Below N w W2)
    (hN : Blk V N 35 #[.int .i64 3, .slice ua un uc, .int .i64 u.base, .int .i64 0, .slice (some ⟨Bk, 0, none⟩) 1 1]) (hB : Blk V Bk 35 #[.int .i64 bb.kind, .slice z1 m1 z2, .int .i64 bb.ty.base, .int .i64 bb.idx, .slice z3 m2 z4]) (hBk : W2.heap.size ≤ Bk) (hv : Holds V (fun b => W2.heap.size ≤ b) u.args (.slice ua un uc)) :
    KeepsFrom M W2 V ∧ KpB N W2 V ∧ IBind w N L (lamR u bb) V := by
  have hlt := h1.lt
  have hkp : ∀ c, c < W2.heap.size → (L ≤ c ∧ c ≠ N ∧ c ≠ N + 1) → V.heap[c]? = W2.heap[c]? ∧ (L ≤ c ∧ c ≠ N ∧ c ≠ N + 1) := fun c h2 h3 => ⟨hO.block c h2 (by simp; exact h3.2.1), h3⟩
  refine ⟨⟨hO.size, fun k o _ hk ho => ?_⟩, ⟨hO.below (by omega) (by simp), fun j vs hj => ?_⟩, ?_⟩
  · have hkN : k ≠ N := fun e => by subst e; rw [show W2.heap[k]? = _ from h0] at hk; cases hk; cases ho
    exact (hO.block k (Array.getElem?_eq_some_iff.1 hk).1 (by simp; exact hkN)).trans hk
  · by_cases e : j = N
    · subst e; have := hj.symm.trans h0; cases this
    · exact hj.only hO (by simp; exact e)
  · refine ⟨ua, un, uc, some ⟨Bk, 0, none⟩, 1, 1, hN, hv.mono fun c _ h => ⟨by omega, by omega, by omega⟩, ?_, h1.only hO (by simp), hbl.trans (hO.below (by omega) (by simp))⟩
    exact holdsR_one hB ⟨by omega, by omega, by omega⟩ (hbv.keep hkp) (hrv.keep hkp)

theorem size_alloc_le {W : World} {b : Nat} {o : Obj} (h : (W.alloc o).heap.size ≤ b) : W.heap.size ≤ b := by simp at h; omega
theorem bind_finA {w W2 y : World} {N L : Nat} (M : Nat) {bb : Rw} {u : Ty} {z1 : Option Addr} {m1 z2 : Nat} {z3 : Option Addr} {m2 z4 : Nat} {ua : Option Addr} {un uc : Nat} (hc : Below W2.heap.size W2 y) (c0 : Blk W2 N 35 #[.int .i64 bb.kind, .slice z1 m1 z2, .int .i64 bb.ty.base, .int .i64 bb.idx, .slice z3 m2 z4]) (c1 : Blk W2 (N + 1) 35 #[.int .i64 0, .slice none 0 0, .int .i64 0, .int .i64 0, .slice none 0 0])
    (hbv : Holds W2 (fun b => L ≤ b ∧ b ≠ N ∧ b ≠ N + 1) bb.ty.args (.slice z1 m1 z2)) (hrv : HoldsR W2 (fun b => L ≤ b ∧ b ≠ N ∧ b ≠ N + 1) bb.kids (.slice z3 m2 z4)) (hL : L ≤ N) (hbl : Below N w W2) (hv : Holds y (fun b => W2.heap.size ≤ b) u.args (.slice ua un uc)) :
    KeepsFrom M W2 ((((((y.setCell ⟨N, 0, none⟩ (.int .i64 3)).setCell ⟨N, 1, none⟩ (.slice ua un uc)).setCell ⟨N, 2, none⟩ (.int .i64 u.base)).setCell ⟨N, 3, none⟩ (.int .i64 0)).setCell ⟨N, 4, none⟩ (.slice (some ⟨y.heap.size, 0, none⟩) 1 1)).alloc (.cells #[.int .i64 bb.kind, .slice z1 m1 z2, .int .i64 bb.ty.base, .int .i64 bb.idx, .slice z3 m2 z4] 35)) ∧ KpB N W2 ((((((y.setCell ⟨N, 0, none⟩ (.int .i64 3)).setCell ⟨N, 1, none⟩ (.slice ua un uc)).setCell ⟨N, 2, none⟩ (.int .i64 u.base)).setCell ⟨N, 3, none⟩ (.int .i64 0)).setCell ⟨N, 4, none⟩ (.slice (some ⟨y.heap.size, 0, none⟩) 1 1)).alloc (.cells #[.int .i64 bb.kind, .slice z1 m1 z2, .int .i64 bb.ty.base, .int .i64 bb.idx, .slice z3 m2 z4] 35)) ∧ IBind w N L (lamR u bb) ((((((y.setCell ⟨N, 0, none⟩ (.int .i64 3)).setCell ⟨N, 1, none⟩ (.slice ua un uc)).setCell ⟨N, 2, none⟩ (.int .i64 u.base)).setCell ⟨N, 3, none⟩ (.int .i64 0)).setCell ⟨N, 4, none⟩ (.slice (some ⟨y.heap.size, 0, none⟩) 1 1)).alloc (.cells #[.int .i64 bb.kind, .slice z1 m1 z2, .int .i64 bb.ty.base, .int .i64 bb.idx, .slice z3 m2 z4] 35)) := by
  have l0 := c0.lt
  have m9 := c0.below hc c0.lt
  have hO := ((((((Only.of_below' (S := [N]) hc).set (B := N) (by simp) 0 (.int .i64 3)).set (B := N) (by simp) 1 (.slice ua un uc)).set (B := N) (by simp) 2 (.int .i64 u.base)).set (B := N) (by simp) 3 (.int .i64 0)).set (B := N) (by simp) 4 (.slice (some ⟨y.heap.size, 0, none⟩) 1 1)).alloc (.cells #[.int .i64 bb.kind, .slice z1 m1 z2, .int .i64 bb.ty.base, .int .i64 bb.idx, .slice z3 m2 z4] 35)
  have hN := (((((m9.set 0 (.int .i64 3)).set 1 (.slice ua un uc)).set 2 (.int .i64 u.base)).set 3 (.int .i64 0)).set 4 (.slice (some ⟨y.heap.size, 0, none⟩) 1 1)).alloc (.cells #[.int .i64 bb.kind, .slice z1 m1 z2, .int .i64 bb.ty.base, .int .i64 bb.idx, .slice z3 m2 z4] 35)
  have hB := Blk.new' (((((y.setCell ⟨N, 0, none⟩ (.int .i64 3)).setCell ⟨N, 1, none⟩ (.slice ua un uc)).setCell ⟨N, 2, none⟩ (.int .i64 u.base)).setCell ⟨N, 3, none⟩ (.int .i64 0)).setCell ⟨N, 4, none⟩ (.slice (some ⟨y.heap.size, 0, none⟩) 1 1)) y.heap.size 35 #[.int .i64 bb.kind, .slice z1 m1 z2, .int .i64 bb.ty.base, .int .i64 bb.idx, .slice z3 m2 z4] (by simp [World.setCell])
  have hv := (holds_set5 (g := N) (ok' := fun b => W2.heap.size ≤ b) hv (fun b _ h => ⟨by omega, h⟩) (.int .i64 3) (.slice ua un uc) (.int .i64 u.base) (.int .i64 0) (.slice (some ⟨y.heap.size, 0, none⟩) 1 1)).alloc (.cells #[.int .i64 bb.kind, .slice z1 m1 z2, .int .i64 bb.ty.base, .int .i64 bb.idx, .slice z3 m2 z4] 35)
  exact bind_fin hO c0 c1 hbv hrv hL hbl hN hB hc.size hv
theorem bind_finB {w W2 y : World} {N L : Nat} (M : Nat) {bb : Rw} {u : Ty} {z1 : Option Addr} {m1 z2 : Nat} {z3 : Option Addr} {m2 z4 : Nat} {ua : Option Addr} {un uc : Nat} (hc : Below W2.heap.size W2 y) (c0 : Blk W2 N 35 #[.int .i64 bb.kind, .slice z1 m1 z2, .int .i64 bb.ty.base, .int .i64 bb.idx, .slice z3 m2 z4]) (c1 : Blk W2 (N + 1) 35 #[.int .i64 0, .slice none 0 0, .int .i64 0, .int .i64 0, .slice none 0 0])
    (hbv : Holds W2 (fun b => L ≤ b ∧ b ≠ N ∧ b ≠ N + 1) bb.ty.args (.slice z1 m1 z2)) (hrv : HoldsR W2 (fun b => L ≤ b ∧ b ≠ N ∧ b ≠ N + 1) bb.kids (.slice z3 m2 z4)) (hL : L ≤ N) (hbl : Below N w W2) (hv : Holds y (fun b => W2.heap.size ≤ b) u.args (.slice ua un uc)) (hB9 : Blk y W2.heap.size 35 #[.int .i64 bb.kind, .slice z1 m1 z2, .int .i64 bb.ty.base, .int .i64 bb.idx, .slice z3 m2 z4]) :
    KeepsFrom M W2 (((((y.setCell ⟨N, 0, none⟩ (.int .i64 3)).setCell ⟨N, 1, none⟩ (.slice ua un uc)).setCell ⟨N, 2, none⟩ (.int .i64 u.base)).setCell ⟨N, 3, none⟩ (.int .i64 0)).setCell ⟨N, 4, none⟩ (.slice (some ⟨W2.heap.size, 0, none⟩) 1 1)) ∧ KpB N W2 (((((y.setCell ⟨N, 0, none⟩ (.int .i64 3)).setCell ⟨N, 1, none⟩ (.slice ua un uc)).setCell ⟨N, 2, none⟩ (.int .i64 u.base)).setCell ⟨N, 3, none⟩ (.int .i64 0)).setCell ⟨N, 4, none⟩ (.slice (some ⟨W2.heap.size, 0, none⟩) 1 1)) ∧ IBind w N L (lamR u bb) (((((y.setCell ⟨N, 0, none⟩ (.int .i64 3)).setCell ⟨N, 1, none⟩ (.slice ua un uc)).setCell ⟨N, 2, none⟩ (.int .i64 u.base)).setCell ⟨N, 3, none⟩ (.int .i64 0)).setCell ⟨N, 4, none⟩ (.slice (some ⟨W2.heap.size, 0, none⟩) 1 1)) := by
  have l0 := c0.lt
  have m9 := c0.below hc c0.lt
  have hO := (((((Only.of_below' (S := [N]) hc).set (B := N) (by simp) 0 (.int .i64 3)).set (B := N) (by simp) 1 (.slice ua un uc)).set (B := N) (by simp) 2 (.int .i64 u.base)).set (B := N) (by simp) 3 (.int .i64 0)).set (B := N) (by simp) 4 (.slice (some ⟨W2.heap.size, 0, none⟩) 1 1)
  have hN := ((((m9.set 0 (.int .i64 3)).set 1 (.slice ua un uc)).set 2 (.int .i64 u.base)).set 3 (.int .i64 0)).set 4 (.slice (some ⟨W2.heap.size, 0, none⟩) 1 1)
  have hB := ((((hB9.other (B' := N) (by omega) 0 (.int .i64 3)).other (B' := N) (by omega) 1 (.slice ua un uc)).other (B' := N) (by omega) 2 (.int .i64 u.base)).other (B' := N) (by omega) 3 (.int .i64 0)).other (B' := N) (by omega) 4 (.slice (some ⟨W2.heap.size, 0, none⟩) 1 1)
  have hv := holds_set5 (g := N) (ok' := fun b => W2.heap.size ≤ b) hv (fun b _ h => ⟨by omega, h⟩) (.int .i64 3) (.slice ua un uc) (.int .i64 u.base) (.int .i64 0) (.slice (some ⟨W2.heap.size, 0, none⟩) 1 1)
  exact bind_fin hO c0 c1 hbv hrv hL hbl hN hB (Nat.le_refl _) hv

set_option maxRecDepth 100000 in
set_option maxHeartbeats 3200000 in
theorem bind_calls (b : Rw) (ts : List Ty) (L : Nat) (okt : Nat → Prop) (sb sr st : Value) (w : World) (hL : L ≤ w.heap.size) (hb : Holds w (fun b => L ≤ b) b.ty.args sb) (hr : HoldsR w (fun b => L ≤ b) b.kids sr) (ht : Holds w okt ts st) (hsz : sizeL ts ≤ 1000000) :
    Calls Try.prog 50 #[rwv b.kind sb b.ty.base b.idx sr, st] w (MadeL L [] w (lamsR b ts)) := by
  refine (callsIn_wide (n := 9)).1 ?_
  obtain ⟨N, hN⟩ : ∃ N, w.heap.size = N := ⟨_, rfl⟩
  have hf71 : Fence.wide.fn 71 := trivial
  have hf72 : Fence.wide.fn 72 := trivial
  obtain ⟨x1, x2, hx, _⟩ := hb.shape
  obtain ⟨x3, x4, hx', _⟩ := hr.shape
  obtain ⟨y1, y2, hy, _⟩ := ht.shape
  have htl := sizeL_length ts
  generalize b.ty.args.length = n1 at hx
  generalize b.kids.length = n2 at hx'
  subst hx hx' hy
  have ht0 : Holds w (fun b => b < N) ts (.slice y1 ts.length y2) := ht.mono fun b h _ => by omega
  refine callsIn_of_wp_marks Try.func50 rfl trivial ?_ rfl
  simp only [Try.ntmps50, List.size_toArray, List.length_cons, List.length_nil, Nat.reduceAdd, Nat.reduceSub, Array.replicate_succ, Array.replicate_zero, List.push_toArray, List.append_toArray, List.nil_append, List.cons_append]
  gi_wp2_with (gi_at_call 71; refine (Backward_in _ _ _ _ _).mono ?_; rintro e w' ⟨rfl, rfl⟩)
  obtain ⟨W0, hW0⟩ : ∃ W0, ((w.alloc (.cells #[.int .i64 b.kind, .slice x1 n1 x2, .int .i64 b.ty.base, .int .i64 b.idx, .slice x3 n2 x4] 35)).alloc (.cells #[.int .i64 0, .slice none 0 0, .int .i64 0, .int .i64 0, .slice none 0 0] 35)).alloc (.cells #[.slice y1 ts.length y2] 30) = W0 := ⟨_, rfl⟩
  have b0 : Blk W0 N 35 #[.int .i64 b.kind, .slice x1 n1 x2, .int .i64 b.ty.base, .int .i64 b.idx, .slice x3 n2 x4] := by rw [← hW0]; exact ((Blk.new' _ N 35 _ (by simp [hN])).alloc _).alloc _
  have b1 : Blk W0 (N + 1) 35 #[.int .i64 0, .slice none 0 0, .int .i64 0, .int .i64 0, .slice none 0 0] := by rw [← hW0]; exact (Blk.new' _ (N + 1) 35 _ (by simp [hN])).alloc _
  have b2 : Blk W0 (N + 1 + 1) 30 #[.slice y1 ts.length y2] := by rw [← hW0]; exact Blk.new' _ (N + 1 + 1) 30 _ (by simp [hN])
  have hsz0 : W0.heap.size = N + 3 := by rw [← hW0]; simp [hN]
  have hbl : Below N w W0 := by rw [← hW0]; exact (((Below.refl N w).alloc (by omega) _).alloc (by simp; omega) _).alloc (by simp; omega) _
  rw [hW0]
  have HN : Hid (w.heap.size = N) := hN
  have hi0 : IBind w N L (wrapR b (keysB ([] : List (BItem w N)))) W0 := by
    have hkp : ∀ c, c < w.heap.size → L ≤ c → W0.heap[c]? = w.heap[c]? ∧ (L ≤ c ∧ c ≠ N ∧ c ≠ N + 1) := fun c h1 h2 => ⟨hbl.block c (by omega), h2, by omega, by omega⟩
    exact ⟨x1, n1, x2, x3, n2, x4, b0, hb.keep hkp, hr.keep hkp, b1, hbl⟩
  clear hW0 hN hb hr
  refine range_free rfl (by omega) (gf := 90) (lb := #[.pointer (some ⟨N + 1 + 1, 0, none⟩)]) rfl trivial (enters_of Try.func90 (by kernel_rfl) rfl)
    (back1_stops w N (9 - 1) (N + 1 + 1) (by omega) ts y1 y2 W0 b2 ht0 hsz (by omega) hbl) (Below.refl _ _) KpB.trans (fun W l o o' hl => KpB.put (n0 := N) (w := W0) (by omega) W l o o' hl) (fun _ => rfl)
    (fun pre W => IBind w N L (wrapR b (keysB pre)) W) (fun _ _ _ => False)
    (fun s A B row hs hg hr => hs.free hg hr (by omega)) (fun c s A B row hs hg hr => hs) hi0 ?round ?done ?stop
  case round =>
    rintro l m pre ⟨d, s, u, hs, huz⟩ W K hW hl ⟨z1, m1, z2, z3, m2, z4, c0, hbv, hrv, c1, hbl⟩ hlen _ hK
    have HN9 := HN.out
    have hfin : lamR u (wrapR b (keysB pre)) = wrapR b (keysB (pre ++ [(⟨d, s, u, hs, huz⟩ : BItem w N)])) := by rw [keysB_append]; exact (wrapR_snoc _ _ _).symm
    generalize wrapR b (keysB pre) = bb at *
    obtain ⟨sa, sc, hss, _⟩ := hs.shape
    obtain ⟨un, hun⟩ : ∃ n, u.args.length = n := ⟨_, rfl⟩
    rw [hun] at hss
    subst hss
    obtain ⟨X, hX⟩ : ∃ X, W.heap.size = X := ⟨_, rfl⟩
    have hXN : N + 1 < X := by rw [← hX]; exact c1.lt
    obtain ⟨Wa, hWa⟩ : ∃ Wa, W.alloc (.cells #[.slice sa un sc, .int .i64 u.base] 32) = Wa := ⟨_, rfl⟩
    have d0 : Blk Wa X 32 #[.slice sa un sc, .int .i64 u.base] := by rw [← hWa]; exact Blk.new' _ X 32 _ hX
    have kf : KeepsFrom W0.heap.size W Wa := by rw [← hWa]; exact (KeepsOthers.alloc W _).from _
    have hba : Below W.heap.size W Wa := by rw [← hWa]; exact (Below.refl _ W).alloc (Nat.le_refl _) _
    have c0 := c0.below hba c0.lt
    have c1 := c1.below hba c1.lt
    have hbv := hbv.bel hba
    have hrv := hrv.bel hba
    have hb9 := hbl.trans (hba.mono (by omega))
    have kpa : KpB N W Wa := KpB.of_below hba (by omega)
    have HWa : Hid _ := hWa
    clear hWa hba hbl
    gi_wp2
    rw [HWa.out]
    clear HWa
    refine hK _ _ kf (fun o o' ho hc hc' => ?_)
    have hro : ∀ r, some l = some r → ∃ o : Obj, Wa.heap[r]? = some o ∧ o.isCells = false := fun r e => by cases e; exact ⟨_, ho, hc⟩
    have hg := grownBy_putObj' Wa l o'
    have c0 := c0.own hg hro
    have c1 := c1.own hg hro
    have d0 := d0.own hg hro
    have hbv := hbv.own hg hro
    have hrv := hrv.own hg hro
    have hll : l < Wa.heap.size := (Array.getElem?_eq_some_iff.1 ho).1
    have hb9 : Below N w (Wa.putObj l o') := hb9.grown hg (by omega) (fun k e => by cases e; omega)
    have kpb : KpB N W (Wa.putObj l o') := kpa.trans (KpB.put (n0 := N) (w := W0) (by omega) Wa l o o' (by omega) ho hc)
    have hsu : Holds (Wa.putObj l o') (fun b => b < N) u.args (.slice sa un sc) := hs.keep fun b _ h => ⟨hb9.block b h, h⟩
    clear hK ho hc kf hro hg kpa
    generalize Wa.putObj l o' = W2 at *
    have hft : ∀ cur, Cur W2 cur → Calls Try.prog 72 #[tv (.slice sa un sc) u.base] cur fun e w' => ∃ v, e = .returned (tv v u.base) ∧ Holds w' (fun b => cur.heap.size ≤ b) u.args v ∧ Below cur.heap.size cur w' ∧ Cur W2 w' := fun cur hc =>
      (freshType_calls u _ _ cur (hc.holds hsu) huz).mono fun e w' ⟨v, h1, h2, h3⟩ => ⟨v, h1, h2, h3, hc.then h3⟩
    have hcur := Cur.refl W2
    have l0 := c0.lt
    have l1 := d0.lt
    have q0 := d0.cell 0
    have q1 := d0.cell 1
    have p0 := c0.cell 0
    have p1 := c0.cell 1
    have p2 := c0.cell 2
    have p3 := c0.cell 3
    have p4 := c0.cell 4
    have f0 := c0.frozen 0
    have f1 := c0.frozen 1
    have f2 := c0.frozen 2
    have f3 := c0.frozen 3
    have f4 := c0.frozen 4
    gi_wp2_with fail
    gi_region_with (refine ⟨(fun h => by cases h), (CallsIn.inRound l (callsIn_wide.2 (hft _ (by first | with_reducible assumption | (with_reducible refine Cur.drew ?_; assumption) | (with_reducible refine Cur.alloc ?_ _; assumption) | (with_reducible refine Cur.drew (Cur.alloc ?_ _); assumption) | (with_reducible refine Cur.alloc (Cur.drew ?_) _; assumption))))).mono ?_⟩; rintro e y9 ⟨v9, rfl, hv9, hb9', hc9⟩; obtain ⟨ua, uc, rfl, _⟩ := hv9.shape; have r0 := hc9.cell p0; have r1 := hc9.cell p1; have r2 := hc9.cell p2; have r3 := hc9.cell p3; have r4 := hc9.cell p4; have m9 := c0.below (show Below W2.heap.size W2 y9 from hc9) c0.lt; have l9 := m9.lt; have g0 := m9.frozen 0; have g1 := m9.frozen 1; have g2 := m9.frozen 2; have g3 := m9.frozen 3; have g4 := m9.frozen 4)
    all_goals
      rw [hun] at hv9
      first
      | (have hv8 : Holds y9 (fun b => W2.heap.size ≤ b) u.args (.slice ua un uc) := hv9
         obtain ⟨k1, k2, k3⟩ := bind_finA (w := w) (L := L) W0.heap.size hc9 c0 c1 hbv hrv (by omega) hb9 hv8
         rw [hfin] at k3
         exact ⟨k1, kpb.trans k2, k3⟩)
      | (have hv8 : Holds y9 (fun b => W2.heap.size ≤ b) u.args (.slice ua un uc) := hv9.mono fun b _ h => size_alloc_le (show (W2.alloc (.cells #[.int .i64 bb.kind, .slice z1 m1 z2, .int .i64 bb.ty.base, .int .i64 bb.idx, .slice z3 m2 z4] 35)).heap.size ≤ b from h)
         have hB9 : Blk y9 W2.heap.size 35 #[.int .i64 bb.kind, .slice z1 m1 z2, .int .i64 bb.ty.base, .int .i64 bb.idx, .slice z3 m2 z4] := (Blk.new' W2 W2.heap.size 35 _ rfl).drew.below hb9' (show W2.heap.size < (W2.alloc (.cells #[.int .i64 bb.kind, .slice z1 m1 z2, .int .i64 bb.ty.base, .int .i64 bb.idx, .slice z3 m2 z4] 35)).heap.size by simp)
         obtain ⟨k1, k2, k3⟩ := bind_finB (w := w) (L := L) W0.heap.size hc9 c0 c1 hbv hrv (by omega) hb9 hv8 hB9
         rw [hfin] at k3
         exact ⟨k1, kpb.trans k2, k3⟩)
  case done =>
    rintro D ys W hD hS ⟨z1, m1, z2, z3, m2, z4, c0, hbv, hrv, c1, hbl⟩ hK
    have HN9 := HN.out
    have hfin : wrapR b (keysB ys) = lamsR b ts := by rw [hS, wrapR_reverse]
    rw [hfin] at c0 hbv hrv
    generalize lamsR b ts = bb at *
    have p0 := c0.cell 0
    have p1 := c0.cell 1
    have p2 := c0.cell 2
    have p3 := c0.cell 3
    have p4 := c0.cell 4
    have q0 := c1.cell 0
    have q1 := c1.cell 1
    have q2 := c1.cell 2
    have q3 := c1.cell 3
    have q4 := c1.cell 4
    have f0 := c1.frozen 0
    have f1 := c1.frozen 1
    have f2 := c1.frozen 2
    have f3 := c1.frozen 3
    have f4 := c1.frozen 4
    have d5 := ((((c1.set 0 (.int .i64 bb.kind)).set 1 (.slice z1 m1 z2)).set 2 (.int .i64 bb.ty.base)).set 3 (.int .i64 bb.idx)).set 4 (.slice z3 m2 z4)
    have h5 := holds_set5 (g := N + 1) (ok' := fun b => L ≤ b) hbv (fun b _ h => ⟨h.2.2, h.1⟩) (.int .i64 bb.kind) (.slice z1 m1 z2) (.int .i64 bb.ty.base) (.int .i64 bb.idx) (.slice z3 m2 z4)
    have h6 := holdsR_set5 (g := N + 1) (ok' := fun b => L ≤ b) hrv (fun b _ h => ⟨h.2.2, h.1⟩) (.int .i64 bb.kind) (.slice z1 m1 z2) (.int .i64 bb.ty.base) (.int .i64 bb.idx) (.slice z3 m2 z4)
    have hB5 := bset (bset (bset (bset (bset hbl (show N ≤ N + 1 by omega) (i := 0) (.int .i64 bb.kind)) (show N ≤ N + 1 by omega) (i := 1) (.slice z1 m1 z2)) (show N ≤ N + 1 by omega) (i := 2) (.int .i64 bb.ty.base)) (show N ≤ N + 1 by omega) (i := 3) (.int .i64 bb.idx)) (show N ≤ N + 1 by omega) (i := 4) (.slice z3 m2 z4)
    have hK' := (((((KeepsOthers.setCell W ⟨N + 1, 0, none⟩ (.int .i64 bb.kind)).trans (KeepsOthers.setCell _ ⟨N + 1, 1, none⟩ (.slice z1 m1 z2))).trans (KeepsOthers.setCell _ ⟨N + 1, 2, none⟩ (.int .i64 bb.ty.base))).trans (KeepsOthers.setCell _ ⟨N + 1, 3, none⟩ (.int .i64 bb.idx))).trans (KeepsOthers.setCell _ ⟨N + 1, 4, none⟩ (.slice z3 m2 z4))).same D _ hK rfl
    gi_wp2
    generalize (((((W.setCell ⟨N + 1, 0, none⟩ (.int .i64 bb.kind)).setCell ⟨N + 1, 1, none⟩ (.slice z1 m1 z2)).setCell ⟨N + 1, 2, none⟩ (.int .i64 bb.ty.base)).setCell ⟨N + 1, 3, none⟩ (.int .i64 bb.idx)).setCell ⟨N + 1, 4, none⟩ (.slice z3 m2 z4)) = W3 at *
    refine ⟨by simp, .inl ⟨_, _, rfl, run_takeDeferred hK', ?_⟩⟩
    have d6 := d5.put (.deferred none) hK' rfl
    have e0 : (W3.putObj D (.deferred none)).cell? ⟨N + 1, 0, none⟩ = some (.int .i64 bb.kind) := d6.cell 0
    have e1 : (W3.putObj D (.deferred none)).cell? ⟨N + 1, 1, none⟩ = some (.slice z1 m1 z2) := d6.cell 1
    have e2 : (W3.putObj D (.deferred none)).cell? ⟨N + 1, 2, none⟩ = some (.int .i64 bb.ty.base) := d6.cell 2
    have e3 : (W3.putObj D (.deferred none)).cell? ⟨N + 1, 3, none⟩ = some (.int .i64 bb.idx) := d6.cell 3
    have e4 : (W3.putObj D (.deferred none)).cell? ⟨N + 1, 4, none⟩ = some (.slice z3 m2 z4) := d6.cell 4
    have hro : ∀ r, some D = some r → ∃ o : Obj, W3.heap[r]? = some o ∧ o.isCells = false := fun r e => by cases e; exact ⟨_, hK', rfl⟩
    have hg := grownBy_putObj' W3 D (.deferred none)
    have hDl := (Array.getElem?_eq_some_iff.1 hK').1
    refine ⟨rwv bb.kind (.slice z1 m1 z2) bb.ty.base bb.idx (.slice z3 m2 z4), ?_, _, _, rfl, h5.own hg hro, h6.own hg hro, Only.of_below' ?_⟩
    · simp [results, Try.f50, go_sem, e0, e1, e2, e3, e4]
    · rw [HN9]; exact hB5.grown hg (by omega) (fun k e => by cases e; omega)
  case stop =>
    rintro D c pre W hD hpre h
    exact h.elim

set_option maxRecDepth 100000 in
set_option maxHeartbeats 1600000 in
theorem Bind_calls (t : Rw) (ts : List Ty) (ok okt : Nat → Prop) (sb sr st : Value) (w : World) (hb : Holds w ok t.ty.args sb) (hr : HoldsR w ok t.kids sr) (ht : Holds w okt ts st) (hfit : t.fit) (hsz : sizeL ts ≤ 1000000) :
    Calls Try.prog 21 #[rwv t.kind sb t.ty.base t.idx sr, st] w (Made [] w (lamsR t ts)) := by
  obtain ⟨x1, x2, hx, _⟩ := hb.shape
  obtain ⟨x3, x4, hx', _⟩ := hr.shape
  obtain ⟨y1, y2, hy, _⟩ := ht.shape
  obtain ⟨N, hN⟩ : ∃ N, w.heap.size = N := ⟨_, rfl⟩
  generalize t.ty.args.length = n1 at hx
  generalize t.kids.length = n2 at hx'
  obtain ⟨n3, hn3⟩ : ∃ n, ts.length = n := ⟨_, rfl⟩
  rw [hn3] at hy
  subst hx hx' hy
  obtain ⟨W0, hW0⟩ : ∃ W0, (w.alloc (.cells #[.int .i64 t.kind, .slice x1 n1 x2, .int .i64 t.ty.base, .int .i64 t.idx, .slice x3 n2 x4] 35)).alloc (.cells #[.int .i64 0, .slice none 0 0, .int .i64 0, .int .i64 0, .slice none 0 0] 35) = W0 := ⟨_, rfl⟩
  have b0 : Blk W0 N 35 #[.int .i64 t.kind, .slice x1 n1 x2, .int .i64 t.ty.base, .int .i64 t.idx, .slice x3 n2 x4] := by rw [← hW0]; exact (Blk.new' w N 35 _ hN).alloc _
  have b1 : Blk W0 (N + 1) 35 #[.int .i64 0, .slice none 0 0, .int .i64 0, .int .i64 0, .slice none 0 0] := by rw [← hW0]; exact Blk.new' _ (N + 1) 35 _ (by simp [hN])
  have bl : Below N w W0 := by rw [← hW0]; exact ((Below.refl N w).alloc (by omega) _).alloc (by simp; omega) _
  have hO0 : Only [] w W0 := Only.of_below' (by rw [hN]; exact bl)
  have hcall := freshR_calls t ok _ _ W0 (hb.bel (hN ▸ bl)) (hr.bel (hN ▸ bl)) hfit
  have ht0 := ht.bel (hN ▸ bl)
  have c0 := b0.cell 0
  have c1 := b0.cell 1
  have c2 := b0.cell 2
  have c3 := b0.cell 3
  have c4 := b0.cell 4
  have hz : W0.heap.size = N + 2 := by rw [← hW0]; simp [hN]
  have HW : Hid _ := hW0
  clear hW0 hb hr ht hn3 hfit
  go_enter Try.func21, Try.ntmps21
  go_upto_region 1 with fail
  rw [HW.out]
  clear HW
  go_wp2_with fail
  refine hcall.mono ?_
  rintro e w1 ⟨vb, vr, rfl, hvb, hvr, hO1⟩
  have b2 := b1.only hO1 (by simp)
  have ht1 : Holds w1 okt ts (.slice y1 n3 y2) := ht0.keep fun b h1 h2 => ⟨hO1.block b h1 (by simp), h2⟩
  have hO2 : Only [] w w1 := hO0.trans hO1
  have hs1 : N + 2 ≤ w1.heap.size := by have := hO1.size; omega
  have hc2 := bind_calls t ts (N + 2) okt _ _ _ w1 hs1 (hvb.mono fun b _ h => by omega) (hvr.mono fun b _ h => by omega) ht1 hsz
  obtain ⟨u1, u2, rfl, _⟩ := hvb.shape
  obtain ⟨u3, u4, rfl, _⟩ := hvr.shape
  generalize t.ty.args.length = m1 at *
  generalize t.kids.length = m2 at *
  clear hcall c0 c1 c2 c3 c4 hvb hvr ht0 hO1
  go_wp2_with fail
  refine hc2.mono ?_
  rintro e w3 ⟨vb, vr, rfl, hvb, hvr, hO3⟩
  obtain ⟨v, hv⟩ : ∃ v, lamsR t ts = v := ⟨_, rfl⟩
  have HV : Hid _ := hv
  rw [hv] at hvb hvr ⊢
  obtain ⟨s1, s2, rfl, _⟩ := hvb.shape
  obtain ⟨s3, s4, rfl, _⟩ := hvr.shape
  generalize v.ty.args.length = k1 at *
  generalize v.kids.length = k2 at *
  have m9 := b2.only hO3 (by simp)
  have hO4 : Only [] w w3 := hO2.trans hO3
  have hg9 : w.heap.size ≤ N + 1 := by omega
  clear hc2 ht1 b2 b1 b0 hv
  have e0 := m9.cell 0
  have e1 := m9.cell 1
  have e2 := m9.cell 2
  have e3 := m9.cell 3
  have e4 := m9.cell 4
  have f0 := m9.frozen 0
  have f1 := m9.frozen 1
  have f2 := m9.frozen 2
  have f3 := m9.frozen 3
  have f4 := m9.frozen 4
  have h5 := holds_set5 (g := N + 1) (ok' := fun b => w.heap.size ≤ b) hvb (fun b _ h => ⟨by omega, by omega⟩) (.int .i64 v.kind) (.slice s1 k1 s2) (.int .i64 v.ty.base) (.int .i64 v.idx) (.slice s3 k2 s4)
  have h6 := holdsR_set5 (g := N + 1) (ok' := fun b => w.heap.size ≤ b) hvr (fun b _ h => ⟨by omega, by omega⟩) (.int .i64 v.kind) (.slice s1 k1 s2) (.int .i64 v.ty.base) (.int .i64 v.idx) (.slice s3 k2 s4)
  have b5 := (((((m9.set 0 (.int .i64 v.kind)).set 1 (.slice s1 k1 s2)).set 2 (.int .i64 v.ty.base)).set 3 (.int .i64 v.idx)).set 4 (.slice s3 k2 s4))
  have hO5 := (((((hO4.setNew hg9 0 (.int .i64 v.kind)).setNew hg9 1 (.slice s1 k1 s2)).setNew hg9 2 (.int .i64 v.ty.base)).setNew hg9 3 (.int .i64 v.idx)).setNew hg9 4 (.slice s3 k2 s4))
  go_wp2
  generalize (((((w3.setCell ⟨N + 1, 0, none⟩ (.int .i64 v.kind)).setCell ⟨N + 1, 1, none⟩ (.slice s1 k1 s2)).setCell ⟨N + 1, 2, none⟩ (.int .i64 v.ty.base)).setCell ⟨N + 1, 3, none⟩ (.int .i64 v.idx)).setCell ⟨N + 1, 4, none⟩ (.slice s3 k2 s4)) = W5 at *
  have g0 : W5.cell? ⟨N + 1, 0, none⟩ = some (.int .i64 v.kind) := b5.cell 0
  have g1 : W5.cell? ⟨N + 1, 1, none⟩ = some (.slice s1 k1 s2) := b5.cell 1
  have g2 : W5.cell? ⟨N + 1, 2, none⟩ = some (.int .i64 v.ty.base) := b5.cell 2
  have g3 : W5.cell? ⟨N + 1, 3, none⟩ = some (.int .i64 v.idx) := b5.cell 3
  have g4 : W5.cell? ⟨N + 1, 4, none⟩ = some (.slice s3 k2 s4) := b5.cell 4
  exact bodyPost_ret (v := rwv v.kind (.slice s1 k1 s2) v.ty.base v.idx (.slice s3 k2 s4)) (by simp [results, Try.results21, go_sem, g0, g1, g2, g3, g4]) rfl (by rw [HV.out]; exact ⟨_, _, rfl, h5, h6, hO5⟩)

end Go.Proofs.Ytckagmagjogmnaa

namespace Go.Proofs.Ytckagmagjogmnaa
open Go Go.RowKit

/-- f applied to each, the first one innermost -/
def appsR (f : Rw) (l : List Rw) : Rw := l.foldl appR f
theorem appsR_snoc (f : Rw) (l : List Rw) (a : Rw) : appsR f (l ++ [a]) = appR (appsR f l) a := by unfold appsR; rw [List.foldl_append]; rfl
theorem appsR_take {f : Rw} {l : List Rw} {k : Nat} {a : Rw} (h : l[k]? = some a) : appsR f (l.take (k + 1)) = appR (appsR f (l.take k)) a := by rw [List.take_add_one, h]; exact appsR_snoc _ _ _

/-- What Call's rounds keep: the term so far, in a box of its own. -/
def ICall (w : World) (N R : Nat) (v : Rw) (W : World) : Prop := ∃ x1 n1 x2 x3 n2 x4, Blk W R 35 #[.int .i64 v.kind, .slice x1 n1 x2, .int .i64 v.ty.base, .int .i64 v.idx, .slice x3 n2 x4] ∧ Holds W (fun b => N + 1 + 1 ≤ b ∧ b ≠ R) v.ty.args (.slice x1 n1 x2) ∧ HoldsR W (fun b => N + 1 + 1 ≤ b ∧ b ≠ R) v.kids (.slice x3 n2 x4) ∧ Blk W (N + 1) 35 #[.int .i64 0, .slice none 0 0, .int .i64 0, .int .i64 0, .slice none 0 0] ∧ Below N w W

set_option maxRecDepth 100000 in
set_option maxHeartbeats 1600000 in
theorem Call_calls (t : Rw) (ts : List Rw) (ok okt : Nat → Prop) (sb sr st : Value) (w : World) (hb : Holds w ok t.ty.args sb) (hr : HoldsR w ok t.kids sr) (ht : HoldsR w okt ts st) (hfit : t.fit) (hfs : ∀ u ∈ ts, u.fit) (hlen : ts.length ≤ 1000000) :
    Calls Try.prog 23 #[rwv t.kind sb t.ty.base t.idx sr, st] w (Made [] w (appsR t ts)) := by
  obtain ⟨x1, x2, hx, _⟩ := hb.shape
  obtain ⟨x3, x4, hx', _⟩ := hr.shape
  obtain ⟨N, hN⟩ : ∃ N, w.heap.size = N := ⟨_, rfl⟩
  have ht' : HoldsR w (fun b => b < N) ts st := ht.mono fun b h _ => by omega
  obtain ⟨y1, y2, hy, _⟩ := ht.shape
  generalize t.ty.args.length = n1 at hx
  generalize t.kids.length = n2 at hx'
  subst hx hx' hy
  obtain ⟨W0, hW0⟩ : ∃ W0, (w.alloc (.cells #[.int .i64 t.kind, .slice x1 n1 x2, .int .i64 t.ty.base, .int .i64 t.idx, .slice x3 n2 x4] 35)).alloc (.cells #[.int .i64 0, .slice none 0 0, .int .i64 0, .int .i64 0, .slice none 0 0] 35) = W0 := ⟨_, rfl⟩
  have b0 : Blk W0 N 35 #[.int .i64 t.kind, .slice x1 n1 x2, .int .i64 t.ty.base, .int .i64 t.idx, .slice x3 n2 x4] := by rw [← hW0]; exact (Blk.new' w N 35 _ hN).alloc _
  have b1 : Blk W0 (N + 1) 35 #[.int .i64 0, .slice none 0 0, .int .i64 0, .int .i64 0, .slice none 0 0] := by rw [← hW0]; exact Blk.new' _ (N + 1) 35 _ (by simp [hN])
  have bl : Below N w W0 := by rw [← hW0]; exact ((Below.refl N w).alloc (by omega) _).alloc (by simp; omega) _
  have hcall := freshR_calls t ok _ _ W0 (hb.bel (hN ▸ bl)) (hr.bel (hN ▸ bl)) hfit
  have c0 := b0.cell 0
  have c1 := b0.cell 1
  have c2 := b0.cell 2
  have c3 := b0.cell 3
  have c4 := b0.cell 4
  have hz : W0.heap.size = N + 1 + 1 := by rw [← hW0]; simp [hN]
  have HW : Hid _ := hW0
  have HN : Hid (w.heap.size = N) := hN
  have HF : Hid (∀ u ∈ ts, u.fit) := hfs
  clear hW0 hb hr ht hfit hfs
  go_enter Try.func23, Try.ntmps23
  go_upto_region 1 with fail
  rw [HW.out]
  clear HW
  go_wp2_with fail
  refine hcall.mono ?_
  rintro e w1 ⟨vb, vr, rfl, hvb, hvr, hO1⟩
  obtain ⟨u1, u2, rfl, _⟩ := hvb.shape
  obtain ⟨u3, u4, rfl, _⟩ := hvr.shape
  obtain ⟨m1, hm1⟩ : ∃ n, t.ty.args.length = n := ⟨_, rfl⟩
  obtain ⟨m2, hm2⟩ : ∃ n, t.kids.length = n := ⟨_, rfl⟩
  rw [hm1] at hvb ⊢
  rw [hm2] at hvr ⊢
  have m1' := b1.only hO1 (by simp)
  have B1 : Below N w w1 := bl.trans (hO1.below (by omega) (by simp))
  obtain ⟨R, hR⟩ : ∃ R, w1.heap.size = R := ⟨_, rfl⟩
  have hRN : N + 1 + 1 ≤ R := by have := hO1.size; omega
  obtain ⟨W2, hW2⟩ : ∃ W2, w1.alloc (.cells #[.int .i64 t.kind, .slice u1 m1 u2, .int .i64 t.ty.base, .int .i64 t.idx, .slice u3 m2 u4] 35) = W2 := ⟨_, rfl⟩
  have hI0 : ICall w N R t W2 := by
    rw [← hW2]
    refine ⟨u1, m1, u2, u3, m2, u4, Blk.new' w1 R 35 _ hR, (hvb.mono fun b h1 h2 => ⟨by omega, by omega⟩).alloc _, (hvr.mono fun b h1 h2 => ⟨by omega, by omega⟩).alloc _, m1'.alloc _, B1.alloc (by omega) _⟩
  have HW2 : Hid _ := hW2
  clear hcall c0 c1 c2 c3 c4 hvb hvr b0 b1 hW2 hO1 m1' B1 bl hm1 hm2
  go_upto_region 2 with fail
  rw [HW2.out]
  clear HW2
  go_wp2_with fail
  go_loopw [12] (fun i wr => ∃ k : Nat, k ≤ ts.length ∧ i = .int .i64 k ∧ ICall w N R (appsR t (ts.take k)) wr) (fun i _ => ts.length - (intOf i).toNat)
  case atStart => exact ⟨0, Nat.zero_le _, rfl, hI0⟩
  case round =>
    clear hI0 hz hR
    obtain ⟨k, hk, rfl, z1, k1, z2, z3, k2, z4, h0, hv, hr, h1, hbl⟩ := hrel
    have hlR := h0.lt
    have hNw : N ≤ wr.heap.size := by omega
    by_cases hlt : k < ts.length
    · obtain ⟨u, hu⟩ : ∃ u, ts[k]? = some u := ⟨_, List.getElem?_eq_getElem hlt⟩
      have htw : HoldsR wr (fun b => b < N) ts (.slice y1 ts.length y2) := ht'.keep fun b _ h => ⟨hbl.block b h, h⟩
      obtain ⟨a9, c9, e9, _, hat⟩ := htw.shape
      cases e9
      obtain ⟨g, o, s, r, rfl, hgN, hg, a0, a1, a2, a3, a4, hs, hsr⟩ := hat k u hu
      obtain ⟨sa, sc, rfl, _⟩ := hs.shape
      obtain ⟨sd, se, rfl, _⟩ := hsr.shape
      generalize u.ty.args.length = n3 at *
      generalize u.kids.length = n4 at *
      have hm := List.mem_of_getElem? hu
      have HAP : Hid (appsR t (ts.take (k + 1)) = appR (appsR t (ts.take k)) u) := appsR_take hu
      have y1' : (0 : Int) ≤ (k : Int) := by omega
      have y2' : (k : Int) < (ts.length : Int) := by omega
      have hfu := HF.out u hm
      generalize appsR t (ts.take k) = v at *
      obtain ⟨X, hX⟩ : ∃ X, wr.heap.size = X := ⟨_, rfl⟩
      obtain ⟨W3, hW3⟩ : ∃ W3, wr.alloc (.cells #[.int .i64 u.kind, .slice sa n3 sc, .int .i64 u.ty.base, .int .i64 u.idx, .slice sd n4 se] 35) = W3 := ⟨_, rfl⟩
      have d3 : Blk W3 X 35 #[.int .i64 u.kind, .slice sa n3 sc, .int .i64 u.ty.base, .int .i64 u.idx, .slice sd n4 se] := by rw [← hW3]; exact Blk.new' wr X 35 _ hX
      have d0 : Blk W3 R 35 #[.int .i64 v.kind, .slice z1 k1 z2, .int .i64 v.ty.base, .int .i64 v.idx, .slice z3 k2 z4] := by rw [← hW3]; exact h0.alloc _
      have d1 : Blk W3 (N + 1) 35 #[.int .i64 0, .slice none 0 0, .int .i64 0, .int .i64 0, .slice none 0 0] := by rw [← hW3]; exact h1.alloc _
      have hv3 : Holds W3 (fun b => N + 1 + 1 ≤ b ∧ b ≠ R) v.ty.args (.slice z1 k1 z2) := by rw [← hW3]; exact hv.alloc _
      have hr3 : HoldsR W3 (fun b => N + 1 + 1 ≤ b ∧ b ≠ R) v.kids (.slice z3 k2 z4) := by rw [← hW3]; exact hr.alloc _
      have hs3 : Holds W3 (fun b => b < N) u.ty.args (.slice sa n3 sc) := by rw [← hW3]; exact hs.alloc _
      have hsr3 : HoldsR W3 (fun b => b < N) u.kids (.slice sd n4 se) := by rw [← hW3]; exact hsr.alloc _
      have hb3 : Below N w W3 := by rw [← hW3]; exact hbl.alloc hNw _
      have hz3 : W3.heap.size = X + 1 := by rw [← hW3]; simp [hX]
      have HW3 : Hid _ := hW3
      clear hW3 h0 h1 hv hr hat hs hsr hbl htw hu
      go_upto_region 5 with fail
      rw [HW3.out]
      clear HW3 a0 a1 a2 a3 a4
      have p0 := d0.cell 0
      have p1 := d0.cell 1
      have p2 := d0.cell 2
      have p3 := d0.cell 3
      have p4 := d0.cell 4
      have q0 := d3.cell 0
      have q1 := d3.cell 1
      have q2 := d3.cell 2
      have q3 := d3.cell 3
      have q4 := d3.cell 4
      have hcur := Cur.refl W3
      have hK : ∀ (z : World), Cur W3 z → z.cell? ⟨R, 0, none⟩ = some (.int .i64 v.kind) ∧ z.cell? ⟨R, 1, none⟩ = some (.slice z1 k1 z2) ∧ z.cell? ⟨R, 2, none⟩ = some (.int .i64 v.ty.base) ∧ z.cell? ⟨R, 3, none⟩ = some (.int .i64 v.idx) ∧ z.cell? ⟨R, 4, none⟩ = some (.slice z3 k2 z4) ∧ z.cell? ⟨X, 0, none⟩ = some (.int .i64 u.kind) ∧ z.cell? ⟨X, 1, none⟩ = some (.slice sa n3 sc) ∧ z.cell? ⟨X, 2, none⟩ = some (.int .i64 u.ty.base) ∧ z.cell? ⟨X, 3, none⟩ = some (.int .i64 u.idx) ∧ z.cell? ⟨X, 4, none⟩ = some (.slice sd n4 se) := fun z hz => ⟨hz.cell p0, hz.cell p1, hz.cell p2, hz.cell p3, hz.cell p4, hz.cell q0, hz.cell q1, hz.cell q2, hz.cell q3, hz.cell q4⟩
      have hXR : X ≠ R := by omega
      have k51 : ∀ cur, Cur W3 cur → Calls Try.prog 51 #[rwv u.kind (.slice sa n3 sc) u.ty.base u.idx (.slice sd n4 se)] cur fun e w' => ∃ s1 s2 s3 s4, e = .returned (rwv u.kind (.slice s1 n3 s2) u.ty.base u.idx (.slice s3 n4 s4)) ∧ Holds w' (fun b => W3.heap.size ≤ b) u.ty.args (.slice s1 n3 s2) ∧ HoldsR w' (fun b => W3.heap.size ≤ b) u.kids (.slice s3 n4 s4) ∧ Cur W3 w' := fun cur hc => by
        have hl1 : u.ty.args.length = n3 := by obtain ⟨_, _, e8, _⟩ := hs3.shape; cases e8; rfl
        have hl2 : u.kids.length = n4 := by obtain ⟨_, _, e8, _⟩ := hsr3.shape; cases e8; rfl
        refine (freshR_calls u _ _ _ cur (hc.holds hs3) (hc.holdsR hsr3) hfu).mono fun e w' ⟨vb, vr, he, h5, h6, h7⟩ => ?_
        obtain ⟨s1, s2, rfl, _⟩ := h5.shape
        obtain ⟨s3, s4, rfl, _⟩ := h6.shape
        rw [hl1] at he h5
        rw [hl2] at he h6
        have hsz := Below.size hc
        exact ⟨s1, s2, s3, s4, he, h5.mono fun b _ h => by omega, h6.mono fun b _ h => by omega, hc.then (h7.below (Nat.le_refl _) (by simp))⟩
      have k52 : ∀ cur s1 s2 s3 s4, Cur W3 cur → Holds cur (fun b => W3.heap.size ≤ b) u.ty.args (.slice s1 n3 s2) → HoldsR cur (fun b => W3.heap.size ≤ b) u.kids (.slice s3 n4 s4) → Calls Try.prog 52 #[rwv v.kind (.slice z1 k1 z2) v.ty.base v.idx (.slice z3 k2 z4), rwv u.kind (.slice s1 n3 s2) u.ty.base u.idx (.slice s3 n4 s4)] cur fun e w' => ∃ s1 m1 s2 s3 m2 s4, e = .returned (rwv (appR v u).kind (.slice s1 m1 s2) (appR v u).ty.base (appR v u).idx (.slice s3 m2 s4)) ∧ Holds w' (fun b => N + 1 + 1 ≤ b ∧ b ≠ R) (appR v u).ty.args (.slice s1 m1 s2) ∧ HoldsR w' (fun b => N + 1 + 1 ≤ b ∧ b ≠ R) (appR v u).kids (.slice s3 m2 s4) ∧ Cur W3 w' := fun cur s1 s2 s3 s4 hc h5 h6 => by
        have hsz := Below.size hc
        refine (apply_calls v u (fun b => N + 1 + 1 ≤ b ∧ b ≠ R) _ _ _ _ cur (fun b h => ⟨by omega, by omega⟩) (hc.holds hv3) (hc.holdsR hr3) (h5.mono fun b _ h => ⟨by omega, by omega⟩) (h6.mono fun b _ h => ⟨by omega, by omega⟩)).mono fun e w' ⟨vb, vr, he, h7, h8, h9⟩ => ?_
        obtain ⟨s1, s2, rfl, _⟩ := h7.shape
        obtain ⟨s3, s4, rfl, _⟩ := h8.shape
        exact ⟨s1, _, s2, s3, _, s4, he, h7, h8, hc.then (h9.below (Nat.le_refl _) (by simp))⟩
      generalize appR v u = v5 at *
      go_region_with (first
          | (go_at_call 52; refine (k52 _ _ _ _ _ (by first | with_reducible assumption | (with_reducible refine Cur.drew ?_; assumption)) hv7 hr7).mono ?_; rintro e y9 ⟨r1, e1, r2, r3, e2, r4, rfl, hv9, hr9, hc9⟩; have m9 := d0.below (show Below W3.heap.size W3 y9 from hc9) d0.lt; have g0 := m9.cell 0; have g1 := m9.cell 1; have g2 := m9.cell 2; have g3 := m9.cell 3; have g4 := m9.cell 4; have f0 := m9.frozen 0; have f1 := m9.frozen 1; have f2 := m9.frozen 2; have f3 := m9.frozen 3; have f4 := m9.frozen 4)
          | (go_at_call 51; refine (k51 _ (by first | with_reducible assumption | (with_reducible refine Cur.drew ?_; assumption))).mono ?_; rintro e y7 ⟨s1, s2, s3, s4, rfl, hv7, hr7, hc7⟩; have t0 := hc7.cell p0; have t1 := hc7.cell p1; have t2 := hc7.cell p2; have t3 := hc7.cell p3; have t4 := hc7.cell p4))
      all_goals
        have w9 : Below W3.heap.size W3 y9 := hc9
        have h5 := holds_set5 (g := R) (ok' := fun b => N + 1 + 1 ≤ b ∧ b ≠ R) hv9 (fun b _ h => ⟨h.2, h⟩) (.int .i64 v5.kind) (.slice r1 e1 r2) (.int .i64 v5.ty.base) (.int .i64 v5.idx) (.slice r3 e2 r4)
        have h6 := holdsR_set5 (g := R) (ok' := fun b => N + 1 + 1 ≤ b ∧ b ≠ R) hr9 (fun b _ h => ⟨h.2, h⟩) (.int .i64 v5.kind) (.slice r1 e1 r2) (.int .i64 v5.ty.base) (.int .i64 v5.idx) (.slice r3 e2 r4)
        have b5 := (((((m9.set 0 (.int .i64 v5.kind)).set 1 (.slice r1 e1 r2)).set 2 (.int .i64 v5.ty.base)).set 3 (.int .i64 v5.idx)).set 4 (.slice r3 e2 r4))
        have b6 := ((((((d1.below w9 d1.lt).other (B' := R) (by omega) 0 (.int .i64 v5.kind)).other (B' := R) (by omega) 1 (.slice r1 e1 r2)).other (B' := R) (by omega) 2 (.int .i64 v5.ty.base)).other (B' := R) (by omega) 3 (.int .i64 v5.idx)).other (B' := R) (by omega) 4 (.slice r3 e2 r4))
        have B5 : Below N w ((((((y9.setCell ⟨R, 0, none⟩ (.int .i64 v5.kind)).setCell ⟨R, 1, none⟩ (.slice r1 e1 r2)).setCell ⟨R, 2, none⟩ (.int .i64 v5.ty.base)).setCell ⟨R, 3, none⟩ (.int .i64 v5.idx)).setCell ⟨R, 4, none⟩ (.slice r3 e2 r4))) := bset (bset (bset (bset (bset (hb3.trans (w9.mono (by omega))) (by omega) (i := 0) (.int .i64 v5.kind)) (by omega) (i := 1) (.slice r1 e1 r2)) (by omega) (i := 2) (.int .i64 v5.ty.base)) (by omega) (i := 3) (.int .i64 v5.idx)) (by omega) (i := 4) (.slice r3 e2 r4)
        clear hv7 hr7 hv9 hr9 g0 g1 g2 g3 g4 f0 f1 f2 f3 f4 m9 hc9 w9
        generalize (((((y9.setCell ⟨R, 0, none⟩ (.int .i64 v5.kind)).setCell ⟨R, 1, none⟩ (.slice r1 e1 r2)).setCell ⟨R, 2, none⟩ (.int .i64 v5.ty.base)).setCell ⟨R, 3, none⟩ (.int .i64 v5.idx)).setCell ⟨R, 4, none⟩ (.slice r3 e2 r4)) = W5 at *
        go_wp2
        go_roundw
        case rel => exact ⟨k + 1, by omega, by go_num, by rw [HAP.out]; exact ⟨r1, e1, r2, r3, e2, r4, b5, h5, h6, b6, B5⟩⟩
        case measure => simp [intOf]; omega
    · obtain rfl : k = ts.length := by omega
      rw [List.take_length] at h0 hv hr
      generalize hvv : appsR t ts = v at *
      have HV : Hid (appsR t ts = v) := hvv
      have p0 := h0.cell 0
      have p1 := h0.cell 1
      have p2 := h0.cell 2
      have p3 := h0.cell 3
      have p4 := h0.cell 4
      have hO2 : Only [] w wr := Only.of_below' (by rw [HN.out]; exact hbl)
      have hg9 : w.heap.size ≤ N + 1 := by rw [HN.out]; omega
      clear hvv
      have e0 := h1.cell 0
      have e1 := h1.cell 1
      have e2 := h1.cell 2
      have e3 := h1.cell 3
      have e4 := h1.cell 4
      have f0 := h1.frozen 0
      have f1 := h1.frozen 1
      have f2 := h1.frozen 2
      have f3 := h1.frozen 3
      have f4 := h1.frozen 4
      have h5 := holds_set5 (g := N + 1) (ok' := fun b => w.heap.size ≤ b) hv (fun b _ h => ⟨by omega, by rw [HN.out]; omega⟩) (.int .i64 v.kind) (.slice z1 k1 z2) (.int .i64 v.ty.base) (.int .i64 v.idx) (.slice z3 k2 z4)
      have h6 := holdsR_set5 (g := N + 1) (ok' := fun b => w.heap.size ≤ b) hr (fun b _ h => ⟨by omega, by rw [HN.out]; omega⟩) (.int .i64 v.kind) (.slice z1 k1 z2) (.int .i64 v.ty.base) (.int .i64 v.idx) (.slice z3 k2 z4)
      have b5 := (((((h1.set 0 (.int .i64 v.kind)).set 1 (.slice z1 k1 z2)).set 2 (.int .i64 v.ty.base)).set 3 (.int .i64 v.idx)).set 4 (.slice z3 k2 z4))
      have hO5 := (((((hO2.setNew hg9 0 (.int .i64 v.kind)).setNew hg9 1 (.slice z1 k1 z2)).setNew hg9 2 (.int .i64 v.ty.base)).setNew hg9 3 (.int .i64 v.idx)).setNew hg9 4 (.slice z3 k2 z4))
      go_wp2
      generalize (((((wr.setCell ⟨N + 1, 0, none⟩ (.int .i64 v.kind)).setCell ⟨N + 1, 1, none⟩ (.slice z1 k1 z2)).setCell ⟨N + 1, 2, none⟩ (.int .i64 v.ty.base)).setCell ⟨N + 1, 3, none⟩ (.int .i64 v.idx)).setCell ⟨N + 1, 4, none⟩ (.slice z3 k2 z4)) = W5 at *
      have g0 : W5.cell? ⟨N + 1, 0, none⟩ = some (.int .i64 v.kind) := b5.cell 0
      have g1 : W5.cell? ⟨N + 1, 1, none⟩ = some (.slice z1 k1 z2) := b5.cell 1
      have g2 : W5.cell? ⟨N + 1, 2, none⟩ = some (.int .i64 v.ty.base) := b5.cell 2
      have g3 : W5.cell? ⟨N + 1, 3, none⟩ = some (.int .i64 v.idx) := b5.cell 3
      have g4 : W5.cell? ⟨N + 1, 4, none⟩ = some (.slice z3 k2 z4) := b5.cell 4
      exact bodyPost_ret (v := rwv v.kind (.slice z1 k1 z2) v.ty.base v.idx (.slice z3 k2 z4)) (by simp [results, Try.results23, go_sem, g0, g1, g2, g3, g4]) rfl ⟨_, _, rfl, h5, h6, hO5⟩

end Go.Proofs.Ytckagmagjogmnaa

