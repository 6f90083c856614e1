/-
  The contracts of raw.Head, raw.apply and raw.fresh.
-/
import Derived.Test.YtckagmagjogmnaaRemake
namespace Go.Proofs.Ytckagmagjogmnaa
open Go Go.RowKit

set_option maxRecDepth 100000 in
theorem Head_calls (k i : Int) (w : World) : Calls Try.prog 24 #[.int .i64 k, .int .i64 i] w (Made [] w (hdR k i)) := by
  obtain ⟨N, hN⟩ : ∃ N, w.heap.size = N := ⟨_, rfl⟩
  have b0 := Blk.new' w N 35 #[.int .i64 0, .slice none 0 0, .int .i64 0, .int .i64 0, .slice none 0 0] hN
  have c0 := b0.cell 0
  have c1 := b0.cell 1
  have c2 := b0.cell 2
  have c3 := b0.cell 3
  have c4 := b0.cell 4
  have f0 := b0.frozen 0
  have f1 := b0.frozen 1
  have f2 := b0.frozen 2
  have f3 := b0.frozen 3
  have f4 := b0.frozen 4
  have b5 := ((((b0.set 0 (.int .i64 k)).set 1 (.slice none 0 0)).set 2 (.int .i64 0)).set 3 (.int .i64 i)).set 4 (.slice none 0 0)
  have hg9 : w.heap.size ≤ N := by omega
  have hO := ((((((Only.refl [] w).alloc (.cells #[.int .i64 0, .slice none 0 0, .int .i64 0, .int .i64 0, .slice none 0 0] 35)).setNew hg9 0 (.int .i64 k)).setNew hg9 1 (.slice none 0 0)).setNew hg9 2 (.int .i64 0)).setNew hg9 3 (.int .i64 i)).setNew hg9 4 (.slice none 0 0)
  obtain ⟨W0, hW0⟩ : ∃ W0, w.alloc (.cells #[.int .i64 0, .slice none 0 0, .int .i64 0, .int .i64 0, .slice none 0 0] 35) = W0 := ⟨_, rfl⟩
  rw [hW0] at b0 c0 c1 c2 c3 c4 f0 f1 f2 f3 f4 b5 hO
  have HW : Hid _ := hW0
  clear hW0
  go_enter Try.func24, Try.ntmps24
  go_upto_region 1 with fail
  rw [HW.out]
  clear HW
  go_wp2
  generalize (((((W0.setCell ⟨N, 0, none⟩ (.int .i64 k)).setCell ⟨N, 1, none⟩ (.slice none 0 0)).setCell ⟨N, 2, none⟩ (.int .i64 0)).setCell ⟨N, 3, none⟩ (.int .i64 i)).setCell ⟨N, 4, none⟩ (.slice none 0 0)) = W5 at *
  have g0 : W5.cell? ⟨N, 0, none⟩ = some (.int .i64 k) := b5.cell 0
  have g1 : W5.cell? ⟨N, 1, none⟩ = some (.slice none 0 0) := b5.cell 1
  have g2 : W5.cell? ⟨N, 2, none⟩ = some (.int .i64 0) := b5.cell 2
  have g3 : W5.cell? ⟨N, 3, none⟩ = some (.int .i64 i) := b5.cell 3
  have g4 : W5.cell? ⟨N, 4, none⟩ = some (.slice none 0 0) := b5.cell 4
  exact bodyPost_ret (v := rwv k (.slice none 0 0) 0 i (.slice none 0 0)) (by simp [results, Try.results24, go_sem, g0, g1, g2, g3, g4]) rfl ⟨_, _, rfl, Holds.nil _ _ _ _ (fun _ => rfl), HoldsR.nil _ _ _ _ (fun _ => rfl), hO⟩

/-- A built slice of raw terms. -/
theorem holdsR_two {w : World} {ok : Nat → Prop} {B : Nat} {s1 r1 s2 r2 : Value} {f a : Rw} (hk : Blk w B 35 #[.int .i64 f.kind, s1, .int .i64 f.ty.base, .int .i64 f.idx, r1, .int .i64 a.kind, s2, .int .i64 a.ty.base, .int .i64 a.idx, r2]) (hB : ok B)
    (h1 : Holds w ok f.ty.args s1) (h2 : HoldsR w ok f.kids r1) (h3 : Holds w ok a.ty.args s2) (h4 : HoldsR w ok a.kids r2) : HoldsR w ok [f, a] (.slice (some ⟨B, 0, none⟩) 2 2) := by
  refine HoldsR.mk [f, a] (some ⟨B, 0, none⟩) 2 (fun i => if i = 0 then s1 else s2) (fun i => if i = 0 then r1 else r2) (Nat.le_refl _) (fun h => by cases h) ?_ ?_ ?_
  · intro i u hi
    match i, hi with
    | 0, hi => cases hi; exact ⟨B, 0, rfl, hB, hk.cell 0, hk.cell 1, hk.cell 2, hk.cell 3, hk.cell 4⟩
    | 1, hi => cases hi; exact ⟨B, 0, rfl, hB, hk.cell 5, hk.cell 6, hk.cell 7, hk.cell 8, hk.cell 9⟩
    | i + 2, hi => simp at hi
  · intro i u hi
    match i, hi with
    | 0, hi => cases hi; exact h1
    | 1, hi => cases hi; exact h3
    | i + 2, hi => simp at hi
  · intro i u hi
    match i, hi with
    | 0, hi => cases hi; exact h2
    | 1, hi => cases hi; exact h4
    | i + 2, hi => simp at hi
theorem holdsR_one {w : World} {ok : Nat → Prop} {B : Nat} {s1 r1 : Value} {f : Rw} {e : TypeId} (hk : Blk w B e #[.int .i64 f.kind, s1, .int .i64 f.ty.base, .int .i64 f.idx, r1]) (hB : ok B)
    (h1 : Holds w ok f.ty.args s1) (h2 : HoldsR w ok f.kids r1) : HoldsR w ok [f] (.slice (some ⟨B, 0, none⟩) 1 1) := by
  refine HoldsR.mk [f] (some ⟨B, 0, none⟩) 1 (fun _ => s1) (fun _ => r1) (Nat.le_refl _) (fun h => by cases h) ?_ ?_ ?_
  · intro i u hi
    match i, hi with
    | 0, hi => cases hi; exact ⟨B, 0, rfl, hB, hk.cell 0, hk.cell 1, hk.cell 2, hk.cell 3, hk.cell 4⟩
    | i + 1, hi => simp at hi
  · intro i u hi
    match i, hi with
    | 0, hi => cases hi; exact h1
    | i + 1, hi => simp at hi
  · intro i u hi
    match i, hi with
    | 0, hi => cases hi; exact h2
    | i + 1, hi => simp at hi

theorem rw_kids_take {ts outs : List Rw} (h : outs = ts.take outs.length) (hl : outs.length = ts.length) : outs = ts := by rw [h, hl, List.take_length]
theorem made_eta {S : List Nat} {cur w' : World} {t : Rw} {outs : List Rw} {e : Ending} (h : Made S cur (.mk t.kind t.ty t.idx outs) e w') (ho : outs = t.kids) : Made S cur t e w' := by
  subst ho
  rwa [← t.eta] at h
mutual
/-- its parts: few types' parts, few kids -/
def Rw.fit : Rw → Prop
  | .mk _ t _ l => t.size ≤ 1000000 ∧ l.length ≤ 1000000 ∧ fitR l
def fitR : List Rw → Prop
  | [] => True
  | t :: r => t.fit ∧ fitR r
end
theorem Rw.fit_eq (t : Rw) : t.fit = (t.ty.size ≤ 1000000 ∧ t.kids.length ≤ 1000000 ∧ fitR t.kids) := by cases t; rfl
theorem fitR_iff (l : List Rw) : fitR l ↔ ∀ t ∈ l, t.fit := by
  induction l with
  | nil => simp [fitR]
  | cons u l ih => simp [fitR, ih]
theorem Rw.fit_of_total (t : Rw) : t.total ≤ 1000000 → t.fit := by
  induction t using Rw.ind with
  | h t ih =>
    intro h
    have h1 := t.total_eq
    have h2 := totalR_length t.kids
    rw [t.fit_eq, fitR_iff]
    exact ⟨by omega, by omega, fun u hu => ih u hu (by have := rtotal_mem hu; omega)⟩

set_option maxRecDepth 100000 in
set_option maxHeartbeats 1600000 in
theorem freshR_calls (t : Rw) : ∀ (ok : Nat → Prop) (sb sl : Value) (w : World), Holds w ok t.ty.args sb → HoldsR w ok t.kids sl → t.fit →
    Calls Try.prog 51 #[rwv t.kind sb t.ty.base t.idx sl] w (Made [] w t) := by
  induction t using Rw.ind with
  | h t ih =>
  intro ok sb sl w hb ha hsz
  rw [t.fit_eq, fitR_iff] at hsz
  obtain ⟨hsz1, hsz2, hsz3⟩ := hsz
  have hIH : Hid (∀ u ∈ t.kids, ∀ (ok : Nat → Prop) (sb sl : Value) (w : World), Holds w ok u.ty.args sb → HoldsR w ok u.kids sl → Calls Try.prog 51 #[rwv u.kind sb u.ty.base u.idx sl] w (Made [] w u)) := fun u hu ok sb sl w h2 h3 => ih u hu ok sb sl w h2 h3 (hsz3 u hu)
  clear ih hsz3
  obtain ⟨x1, x2, hx, _⟩ := hb.shape
  obtain ⟨x3, x4, hx', _⟩ := ha.shape
  obtain ⟨N, hN⟩ : ∃ N, w.heap.size = N := ⟨_, rfl⟩
  generalize t.ty.args.length = n1 at hx
  obtain ⟨n2, hn2⟩ : ∃ n, t.kids.length = n := ⟨_, rfl⟩
  rw [hn2] at hx'
  subst hx hx'
  obtain ⟨W0, hW0⟩ : ∃ W0, (w.alloc (.cells #[.int .i64 t.kind, .slice x1 n1 x2, .int .i64 t.ty.base, .int .i64 t.idx, .slice x3 n2 x4] 35)).alloc (.cells #[.int .i64 0, .slice none 0 0, .int .i64 0, .int .i64 0, .slice none 0 0] 35) = W0 := ⟨_, rfl⟩
  have b0 : Blk W0 N 35 #[.int .i64 t.kind, .slice x1 n1 x2, .int .i64 t.ty.base, .int .i64 t.idx, .slice x3 n2 x4] := by rw [← hW0]; exact (Blk.new' w N 35 _ hN).alloc _
  have b1 : Blk W0 (N + 1) 35 #[.int .i64 0, .slice none 0 0, .int .i64 0, .int .i64 0, .slice none 0 0] := by rw [← hW0]; exact Blk.new' _ (N + 1) 35 _ (by simp [hN])
  have bl : Below N w W0 := by rw [← hW0]; exact ((Below.refl N w).alloc (by omega) _).alloc (by simp; omega) _
  have hcall := remakeF_calls t ok _ _ W0 [] (fun outs _ => outs = t.kids.take outs.length) (hb.bel (hN ▸ bl)) (ha.bel (hN ▸ bl)) (fun b _ => by simp) (fun b h => by cases h) hsz1 hsz2 rfl (fun _ _ _ h _ => h)
    (by
      intro outs u ok' sb' sr' cur hu hP _ h1 h2 _
      refine (hIH.out u (List.mem_of_getElem? hu) ok' sb' sr' cur h1 h2).mono fun e w' h => ⟨u, h, ?_⟩
      show outs ++ [u] = t.kids.take (outs ++ [u]).length
      rw [List.length_append, List.length_singleton, List.take_add_one, hu, ← hP]; rfl)
  have c0 := b0.cell 0
  have c1 := b0.cell 1
  have c2 := b0.cell 2
  have c3 := b0.cell 3
  have c4 := b0.cell 4
  have hz : W0.heap.size = N + 2 := by rw [← hW0]; simp [hN]
  have HW : Hid _ := hW0
  have HN2 : Hid (t.kids.length = n2) := hn2
  rw [hn2] at hcall
  clear hW0 hn2 hb ha hsz1 hsz2
  go_enter Try.func51, Try.ntmps51
  go_upto_region 1 with fail
  rw [HW.out]
  clear HW
  go_wp2_with fail
  refine hcall.mono ?_
  rintro e w1 ⟨outs, ho1, hmade, ho2⟩
  obtain ⟨vb, vr, rfl, hvb, hvr, hO1⟩ := made_eta hmade (rw_kids_take ho2 (by rw [ho1, HN2.out]))
  obtain ⟨u1, u2, rfl, _⟩ := hvb.shape
  obtain ⟨u3, u4, rfl, _⟩ := hvr.shape
  generalize t.ty.args.length = m1 at *
  generalize t.kids.length = m2 at *
  have m9 := b1.only hO1 (by simp)
  have hO2 : Only [] w w1 := (Only.of_below' (by rw [hN]; exact bl)).trans hO1
  have hg9 : w.heap.size ≤ N + 1 := by omega
  clear hcall c0 c1 c2 c3 c4 hmade ho1 ho2
  have e0 := m9.cell 0
  have e1 := m9.cell 1
  have e2 := m9.cell 2
  have e3 := m9.cell 3
  have e4 := m9.cell 4
  have f0 := m9.frozen 0
  have f1 := m9.frozen 1
  have f2 := m9.frozen 2
  have f3 := m9.frozen 3
  have f4 := m9.frozen 4
  have h5 := holds_set5 (g := N + 1) (ok' := fun b => w.heap.size ≤ b) hvb (fun b _ h => ⟨by omega, by omega⟩) (.int .i64 t.kind) (.slice u1 m1 u2) (.int .i64 t.ty.base) (.int .i64 t.idx) (.slice u3 m2 u4)
  have h6 := holdsR_set5 (g := N + 1) (ok' := fun b => w.heap.size ≤ b) hvr (fun b _ h => ⟨by omega, by omega⟩) (.int .i64 t.kind) (.slice u1 m1 u2) (.int .i64 t.ty.base) (.int .i64 t.idx) (.slice u3 m2 u4)
  have b5 := (((((m9.set 0 (.int .i64 t.kind)).set 1 (.slice u1 m1 u2)).set 2 (.int .i64 t.ty.base)).set 3 (.int .i64 t.idx)).set 4 (.slice u3 m2 u4))
  have hO5 := (((((hO2.setNew hg9 0 (.int .i64 t.kind)).setNew hg9 1 (.slice u1 m1 u2)).setNew hg9 2 (.int .i64 t.ty.base)).setNew hg9 3 (.int .i64 t.idx)).setNew hg9 4 (.slice u3 m2 u4))
  go_wp2
  generalize (((((w1.setCell ⟨N + 1, 0, none⟩ (.int .i64 t.kind)).setCell ⟨N + 1, 1, none⟩ (.slice u1 m1 u2)).setCell ⟨N + 1, 2, none⟩ (.int .i64 t.ty.base)).setCell ⟨N + 1, 3, none⟩ (.int .i64 t.idx)).setCell ⟨N + 1, 4, none⟩ (.slice u3 m2 u4)) = W5 at *
  have g0 : W5.cell? ⟨N + 1, 0, none⟩ = some (.int .i64 t.kind) := b5.cell 0
  have g1 : W5.cell? ⟨N + 1, 1, none⟩ = some (.slice u1 m1 u2) := b5.cell 1
  have g2 : W5.cell? ⟨N + 1, 2, none⟩ = some (.int .i64 t.ty.base) := b5.cell 2
  have g3 : W5.cell? ⟨N + 1, 3, none⟩ = some (.int .i64 t.idx) := b5.cell 3
  have g4 : W5.cell? ⟨N + 1, 4, none⟩ = some (.slice u3 m2 u4) := b5.cell 4
  exact bodyPost_ret (v := rwv t.kind (.slice u1 m1 u2) t.ty.base t.idx (.slice u3 m2 u4)) (by simp [results, Try.results51, go_sem, g0, g1, g2, g3, g4]) rfl ⟨_, _, rfl, h5, h6, hO5⟩

end Go.Proofs.Ytckagmagjogmnaa
