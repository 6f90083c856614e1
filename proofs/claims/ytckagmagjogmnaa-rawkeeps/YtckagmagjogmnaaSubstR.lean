/-
  Indexes grown, a raw term for the index 0: plain, and the contracts of raw.grow and raw.Subst and their closures.
-/
import Derived.Test.YtckagmagjogmnaaTurn
namespace Go.Proofs.Ytckagmagjogmnaa
open Go Go.RowKit

/-- a grown index -/
def growG (by_ : Int) (i : Int) (b : Nat) : Rw := hdR 0 (if (b : Int) ≤ i then wrap64 (i + by_) else i)
/-- a raw term, its loose indexes grown -/
def Rw.grow (t : Rw) (by_ : Int) : Rw := t.turn (growG by_) 0
/-- what stands for an index, where a is put for that of the binders -/
def substG (a : Rw) (i : Int) (b : Nat) : Rw := if i = b then a.grow b else if (b : Int) < i then hdR 0 (wrap64 (i - 1)) else hdR 0 i
/-- a for the index 0 of body -/
def substR (body a : Rw) : Rw := body.turn (substG a) 0

set_option maxRecDepth 100000 in
set_option maxHeartbeats 1600000 in
theorem grow1_calls (by_ : Int) (A : Nat) (W : World) (hA : Blk W A 3 #[.int .i64 by_]) : GAt 107 #[.pointer (some ⟨A, 0, none⟩)] W (growG by_) := by
  intro i b w hO hb
  obtain ⟨N, hN⟩ : ∃ N, w.heap.size = N := ⟨_, rfl⟩
  have hA1 := hA.only hO (by simp)
  obtain ⟨W0, hW0⟩ : ∃ W0, w.alloc (.cells #[.int .i64 0, .slice none 0 0, .int .i64 0, .int .i64 0, .slice none 0 0] 35) = W0 := ⟨_, rfl⟩
  have b1 : Blk W0 N 35 #[.int .i64 0, .slice none 0 0, .int .i64 0, .int .i64 0, .slice none 0 0] := by rw [← hW0]; exact Blk.new' _ N 35 _ hN
  have bl : Below N w W0 := by rw [← hW0]; exact (Below.refl N w).alloc (by omega) _
  have hO0 : Only [] w W0 := Only.of_below' (by rw [hN]; exact bl)
  have a0 := (hA1.only hO0 (by simp)).cell 0
  have hz : W0.heap.size = N + 1 := by rw [← hW0]; simp [hN]
  have hg9 : w.heap.size ≤ N := by omega
  have HW : Hid _ := hW0
  clear hW0 hA hA1 hO
  by_cases h : (b : Int) ≤ i
  · have z : decide ((b : Int) ≤ i) = true := by simp; omega
    have z' : decide (i ≥ (b : Int)) = true := by simp; omega
    obtain ⟨v, hv⟩ : ∃ v, growG by_ i b = v := ⟨_, rfl⟩
    have HV : Hid (hdR 0 (wrap64 (i + by_)) = v) := by show _ = _; rw [← hv]; unfold growG; rw [if_pos h]
    have hcall := Head_calls 0 (wrap64 (i + by_)) W0
    rw [HV.out] at hcall
    rw [hv]
    clear h hv HV
    go_enter Try.func107, Try.ntmps107
    go_upto_region 1 with fail
    rw [HW.out]
    clear HW
    go_wp2_with fail
    refine hcall.mono ?_
    rintro e w1 ⟨vb, vr, rfl, hvb, hvr, hO1⟩
    obtain ⟨u1, u2, rfl, _⟩ := hvb.shape
    obtain ⟨u3, u4, rfl, _⟩ := hvr.shape
    generalize v.ty.args.length = m1 at *
    generalize v.kids.length = m2 at *
    have m9 := b1.only hO1 (by simp)
    have hO2 : Only [] w w1 := hO0.trans hO1
    clear hcall a0
    have e0 := m9.cell 0
    have e1 := m9.cell 1
    have e2 := m9.cell 2
    have e3 := m9.cell 3
    have e4 := m9.cell 4
    have f0 := m9.frozen 0
    have f1 := m9.frozen 1
    have f2 := m9.frozen 2
    have f3 := m9.frozen 3
    have f4 := m9.frozen 4
    have h5 := holds_set5 (g := N) (ok' := fun b => w.heap.size ≤ b) hvb (fun b _ h => ⟨by omega, by omega⟩) (.int .i64 v.kind) (.slice u1 m1 u2) (.int .i64 v.ty.base) (.int .i64 v.idx) (.slice u3 m2 u4)
    have h6 := holdsR_set5 (g := N) (ok' := fun b => w.heap.size ≤ b) hvr (fun b _ h => ⟨by omega, by omega⟩) (.int .i64 v.kind) (.slice u1 m1 u2) (.int .i64 v.ty.base) (.int .i64 v.idx) (.slice u3 m2 u4)
    have b5 := (((((m9.set 0 (.int .i64 v.kind)).set 1 (.slice u1 m1 u2)).set 2 (.int .i64 v.ty.base)).set 3 (.int .i64 v.idx)).set 4 (.slice u3 m2 u4))
    have hO5 := (((((hO2.setNew hg9 0 (.int .i64 v.kind)).setNew hg9 1 (.slice u1 m1 u2)).setNew hg9 2 (.int .i64 v.ty.base)).setNew hg9 3 (.int .i64 v.idx)).setNew hg9 4 (.slice u3 m2 u4))
    go_wp2
    generalize (((((w1.setCell ⟨N, 0, none⟩ (.int .i64 v.kind)).setCell ⟨N, 1, none⟩ (.slice u1 m1 u2)).setCell ⟨N, 2, none⟩ (.int .i64 v.ty.base)).setCell ⟨N, 3, none⟩ (.int .i64 v.idx)).setCell ⟨N, 4, none⟩ (.slice u3 m2 u4)) = W5 at *
    have g0 : W5.cell? ⟨N, 0, none⟩ = some (.int .i64 v.kind) := b5.cell 0
    have g1 : W5.cell? ⟨N, 1, none⟩ = some (.slice u1 m1 u2) := b5.cell 1
    have g2 : W5.cell? ⟨N, 2, none⟩ = some (.int .i64 v.ty.base) := b5.cell 2
    have g3 : W5.cell? ⟨N, 3, none⟩ = some (.int .i64 v.idx) := b5.cell 3
    have g4 : W5.cell? ⟨N, 4, none⟩ = some (.slice u3 m2 u4) := b5.cell 4
    exact bodyPost_ret (v := rwv v.kind (.slice u1 m1 u2) v.ty.base v.idx (.slice u3 m2 u4)) (by simp [results, Try.results107, go_sem, g0, g1, g2, g3, g4]) rfl ⟨_, _, rfl, h5, h6, hO5⟩
  · have z : decide ((b : Int) ≤ i) = false := by simp; omega
    have z' : decide (i ≥ (b : Int)) = false := by simp; omega
    obtain ⟨v, hv⟩ : ∃ v, growG by_ i b = v := ⟨_, rfl⟩
    have HV : Hid (hdR 0 i = v) := by show _ = _; rw [← hv]; unfold growG; rw [if_neg h]
    have hcall := Head_calls 0 i W0
    rw [HV.out] at hcall
    rw [hv]
    clear h hv HV
    go_enter Try.func107, Try.ntmps107
    go_upto_region 1 with fail
    rw [HW.out]
    clear HW
    go_wp2_with fail
    refine hcall.mono ?_
    rintro e w1 ⟨vb, vr, rfl, hvb, hvr, hO1⟩
    obtain ⟨u1, u2, rfl, _⟩ := hvb.shape
    obtain ⟨u3, u4, rfl, _⟩ := hvr.shape
    generalize v.ty.args.length = m1 at *
    generalize v.kids.length = m2 at *
    have m9 := b1.only hO1 (by simp)
    have hO2 : Only [] w w1 := hO0.trans hO1
    clear hcall a0
    have e0 := m9.cell 0
    have e1 := m9.cell 1
    have e2 := m9.cell 2
    have e3 := m9.cell 3
    have e4 := m9.cell 4
    have f0 := m9.frozen 0
    have f1 := m9.frozen 1
    have f2 := m9.frozen 2
    have f3 := m9.frozen 3
    have f4 := m9.frozen 4
    have h5 := holds_set5 (g := N) (ok' := fun b => w.heap.size ≤ b) hvb (fun b _ h => ⟨by omega, by omega⟩) (.int .i64 v.kind) (.slice u1 m1 u2) (.int .i64 v.ty.base) (.int .i64 v.idx) (.slice u3 m2 u4)
    have h6 := holdsR_set5 (g := N) (ok' := fun b => w.heap.size ≤ b) hvr (fun b _ h => ⟨by omega, by omega⟩) (.int .i64 v.kind) (.slice u1 m1 u2) (.int .i64 v.ty.base) (.int .i64 v.idx) (.slice u3 m2 u4)
    have b5 := (((((m9.set 0 (.int .i64 v.kind)).set 1 (.slice u1 m1 u2)).set 2 (.int .i64 v.ty.base)).set 3 (.int .i64 v.idx)).set 4 (.slice u3 m2 u4))
    have hO5 := (((((hO2.setNew hg9 0 (.int .i64 v.kind)).setNew hg9 1 (.slice u1 m1 u2)).setNew hg9 2 (.int .i64 v.ty.base)).setNew hg9 3 (.int .i64 v.idx)).setNew hg9 4 (.slice u3 m2 u4))
    go_wp2
    generalize (((((w1.setCell ⟨N, 0, none⟩ (.int .i64 v.kind)).setCell ⟨N, 1, none⟩ (.slice u1 m1 u2)).setCell ⟨N, 2, none⟩ (.int .i64 v.ty.base)).setCell ⟨N, 3, none⟩ (.int .i64 v.idx)).setCell ⟨N, 4, none⟩ (.slice u3 m2 u4)) = W5 at *
    have g0 : W5.cell? ⟨N, 0, none⟩ = some (.int .i64 v.kind) := b5.cell 0
    have g1 : W5.cell? ⟨N, 1, none⟩ = some (.slice u1 m1 u2) := b5.cell 1
    have g2 : W5.cell? ⟨N, 2, none⟩ = some (.int .i64 v.ty.base) := b5.cell 2
    have g3 : W5.cell? ⟨N, 3, none⟩ = some (.int .i64 v.idx) := b5.cell 3
    have g4 : W5.cell? ⟨N, 4, none⟩ = some (.slice u3 m2 u4) := b5.cell 4
    exact bodyPost_ret (v := rwv v.kind (.slice u1 m1 u2) v.ty.base v.idx (.slice u3 m2 u4)) (by simp [results, Try.results107, go_sem, g0, g1, g2, g3, g4]) rfl ⟨_, _, rfl, h5, h6, hO5⟩

set_option maxRecDepth 100000 in
set_option maxHeartbeats 1600000 in
theorem grow_calls (t : Rw) (by_ : Int) (ok : Nat → Prop) (sb sr : Value) (w : World) (hb : Holds w ok t.ty.args sb) (ha : HoldsR w ok t.kids sr) (hfit : t.fit) (hsz : t.size ≤ 2000000) :
    Calls Try.prog 98 #[rwv t.kind sb t.ty.base t.idx sr, .int .i64 by_] w (Made [] w (t.grow by_)) := by
  obtain ⟨x1, x2, hx, _⟩ := hb.shape
  obtain ⟨x3, x4, hx', _⟩ := ha.shape
  obtain ⟨N, hN⟩ : ∃ N, w.heap.size = N := ⟨_, rfl⟩
  generalize t.ty.args.length = n1 at hx
  generalize t.kids.length = n2 at hx'
  subst hx hx'
  obtain ⟨W0, hW0⟩ : ∃ W0, ((w.alloc (.cells #[.int .i64 t.kind, .slice x1 n1 x2, .int .i64 t.ty.base, .int .i64 t.idx, .slice x3 n2 x4] 35)).alloc (.cells #[.int .i64 by_] 3)).alloc (.cells #[.int .i64 0, .slice none 0 0, .int .i64 0, .int .i64 0, .slice none 0 0] 35) = W0 := ⟨_, rfl⟩
  have b0 : Blk W0 N 35 #[.int .i64 t.kind, .slice x1 n1 x2, .int .i64 t.ty.base, .int .i64 t.idx, .slice x3 n2 x4] := by rw [← hW0]; exact ((Blk.new' w N 35 _ hN).alloc _).alloc _
  have b2 : Blk W0 (N + 1) 3 #[.int .i64 by_] := by rw [← hW0]; exact (Blk.new' _ (N + 1) 3 _ (by simp [hN])).alloc _
  have b1 : Blk W0 (N + 1 + 1) 35 #[.int .i64 0, .slice none 0 0, .int .i64 0, .int .i64 0, .slice none 0 0] := by rw [← hW0]; exact Blk.new' _ (N + 1 + 1) 35 _ (by simp [hN])
  have bl : Below N w W0 := by rw [← hW0]; exact (((Below.refl N w).alloc (by omega) _).alloc (by simp; omega) _).alloc (by simp; omega) _
  have hO0 : Only [] w W0 := Only.of_below' (by rw [hN]; exact bl)
  have hcall := turn107_calls (.pointer (some ⟨N + 1, 0, none⟩)) W0 (growG by_) (grow1_calls by_ (N + 1) W0 b2) t hfit 0 ok _ _ W0 (Only.refl _ _) (by omega) (hb.bel (hN ▸ bl)) (ha.bel (hN ▸ bl))
  have hz : W0.heap.size = N + 1 + 1 + 1 := by rw [← hW0]; simp [hN]
  have hg9 : w.heap.size ≤ N + 1 + 1 := by omega
  have HW : Hid _ := hW0
  have c0 := b0.cell 0
  have c1 := b0.cell 1
  have c2 := b0.cell 2
  have c3 := b0.cell 3
  have c4 := b0.cell 4
  have HV : Hid (t.turn (growG by_) 0 = t.grow by_) := rfl
  rw [HV.out] at hcall
  obtain ⟨v, hv⟩ : ∃ v, t.grow by_ = v := ⟨_, rfl⟩
  rw [hv] at hcall ⊢
  clear hW0 hb ha hfit HV hv
  go_enter Try.func98, Try.ntmps98
  go_upto_region 1 with fail
  rw [HW.out]
  clear HW
  go_wp2_with fail
  refine hcall.mono ?_
  rintro e w1 ⟨vb, vr, rfl, hvb, hvr, hO1⟩
  obtain ⟨u1, u2, rfl, _⟩ := hvb.shape
  obtain ⟨u3, u4, rfl, _⟩ := hvr.shape
  generalize v.ty.args.length = m1 at *
  generalize v.kids.length = m2 at *
  have m9 := b1.only hO1 (by simp)
  have hO2 : Only [] w w1 := hO0.trans hO1
  clear hcall c0 c1 c2 c3 c4
  have e0 := m9.cell 0
  have e1 := m9.cell 1
  have e2 := m9.cell 2
  have e3 := m9.cell 3
  have e4 := m9.cell 4
  have f0 := m9.frozen 0
  have f1 := m9.frozen 1
  have f2 := m9.frozen 2
  have f3 := m9.frozen 3
  have f4 := m9.frozen 4
  have h5 := holds_set5 (g := N + 1 + 1) (ok' := fun b => w.heap.size ≤ b) hvb (fun b _ h => ⟨by omega, by omega⟩) (.int .i64 v.kind) (.slice u1 m1 u2) (.int .i64 v.ty.base) (.int .i64 v.idx) (.slice u3 m2 u4)
  have h6 := holdsR_set5 (g := N + 1 + 1) (ok' := fun b => w.heap.size ≤ b) hvr (fun b _ h => ⟨by omega, by omega⟩) (.int .i64 v.kind) (.slice u1 m1 u2) (.int .i64 v.ty.base) (.int .i64 v.idx) (.slice u3 m2 u4)
  have b5 := (((((m9.set 0 (.int .i64 v.kind)).set 1 (.slice u1 m1 u2)).set 2 (.int .i64 v.ty.base)).set 3 (.int .i64 v.idx)).set 4 (.slice u3 m2 u4))
  have hO5 := (((((hO2.setNew hg9 0 (.int .i64 v.kind)).setNew hg9 1 (.slice u1 m1 u2)).setNew hg9 2 (.int .i64 v.ty.base)).setNew hg9 3 (.int .i64 v.idx)).setNew hg9 4 (.slice u3 m2 u4))
  go_wp2
  generalize (((((w1.setCell ⟨N + 1 + 1, 0, none⟩ (.int .i64 v.kind)).setCell ⟨N + 1 + 1, 1, none⟩ (.slice u1 m1 u2)).setCell ⟨N + 1 + 1, 2, none⟩ (.int .i64 v.ty.base)).setCell ⟨N + 1 + 1, 3, none⟩ (.int .i64 v.idx)).setCell ⟨N + 1 + 1, 4, none⟩ (.slice u3 m2 u4)) = W5 at *
  have g0 : W5.cell? ⟨N + 1 + 1, 0, none⟩ = some (.int .i64 v.kind) := b5.cell 0
  have g1 : W5.cell? ⟨N + 1 + 1, 1, none⟩ = some (.slice u1 m1 u2) := b5.cell 1
  have g2 : W5.cell? ⟨N + 1 + 1, 2, none⟩ = some (.int .i64 v.ty.base) := b5.cell 2
  have g3 : W5.cell? ⟨N + 1 + 1, 3, none⟩ = some (.int .i64 v.idx) := b5.cell 3
  have g4 : W5.cell? ⟨N + 1 + 1, 4, none⟩ = some (.slice u3 m2 u4) := b5.cell 4
  exact bodyPost_ret (v := rwv v.kind (.slice u1 m1 u2) v.ty.base v.idx (.slice u3 m2 u4)) (by simp [results, Try.results98, go_sem, g0, g1, g2, g3, g4]) rfl ⟨_, _, rfl, h5, h6, hO5⟩

set_option maxRecDepth 100000 in
set_option maxHeartbeats 1600000 in
theorem subst1_calls (t : Rw) (A : Nat) (W : World) (ok : Nat → Prop) (x1 : Option Addr) (n1 x2 : Nat) (x3 : Option Addr) (n2 x4 : Nat) (hA : Blk W A 35 #[.int .i64 t.kind, .slice x1 n1 x2, .int .i64 t.ty.base, .int .i64 t.idx, .slice x3 n2 x4]) (hb : Holds W ok t.ty.args (.slice x1 n1 x2)) (ha : HoldsR W ok t.kids (.slice x3 n2 x4)) (hfit : t.fit) (hsz : t.size ≤ 2000000) : GAt 97 #[.pointer (some ⟨A, 0, none⟩)] W (substG t) := by
  intro i b w hO hbb
  obtain ⟨N, hN⟩ : ∃ N, w.heap.size = N := ⟨_, rfl⟩
  have hA1 := hA.only hO (by simp)
  obtain ⟨W0, hW0⟩ : ∃ W0, w.alloc (.cells #[.int .i64 0, .slice none 0 0, .int .i64 0, .int .i64 0, .slice none 0 0] 35) = W0 := ⟨_, rfl⟩
  have b1 : Blk W0 N 35 #[.int .i64 0, .slice none 0 0, .int .i64 0, .int .i64 0, .slice none 0 0] := by rw [← hW0]; exact Blk.new' _ N 35 _ hN
  have bl : Below N w W0 := by rw [← hW0]; exact (Below.refl N w).alloc (by omega) _
  have hO0 : Only [] w W0 := Only.of_below' (by rw [hN]; exact bl)
  have hA2 := hA1.only hO0 (by simp)
  have hkp : ∀ b, b < W.heap.size → ok b → W0.heap[b]? = W.heap[b]? ∧ ok b := fun b h1 h2 => ⟨(hO.trans hO0).block b h1 (by simp), h2⟩
  have hc1 := grow_calls t (b : Int) ok _ _ W0 (hb.keep hkp) (ha.keep hkp) hfit hsz
  have a0 := hA2.cell 0
  have a1 := hA2.cell 1
  have a2 := hA2.cell 2
  have a3 := hA2.cell 3
  have a4 := hA2.cell 4
  have hz : W0.heap.size = N + 1 := by rw [← hW0]; simp [hN]
  have hg9 : w.heap.size ≤ N := by omega
  have HW : Hid _ := hW0
  clear hW0 hA hA1 hA2 hO hb ha hkp hfit
  by_cases h : i = (b : Int)
  · have z : (i == (b : Int)) = true := by simp [h]
    obtain ⟨v, hv⟩ : ∃ v, substG t i b = v := ⟨_, rfl⟩
    have HV : Hid (t.grow b = v) := by show _ = _; rw [← hv]; unfold substG; rw [if_pos h]
    rw [HV.out] at hc1
    rw [hv]
    clear h hv HV
    go_enter Try.func97, Try.ntmps97
    go_upto_region 1 with fail
    rw [HW.out]
    clear HW
    go_wp2_with fail
    refine hc1.mono ?_
    rintro e w1 ⟨vb, vr, rfl, hvb, hvr, hO1⟩
    obtain ⟨u1, u2, rfl, _⟩ := hvb.shape
    obtain ⟨u3, u4, rfl, _⟩ := hvr.shape
    generalize v.ty.args.length = m1 at *
    generalize v.kids.length = m2 at *
    have m9 := b1.only hO1 (by simp)
    have hO2 : Only [] w w1 := hO0.trans hO1
    clear hc1 a0 a1 a2 a3 a4
    have e0 := m9.cell 0
    have e1 := m9.cell 1
    have e2 := m9.cell 2
    have e3 := m9.cell 3
    have e4 := m9.cell 4
    have f0 := m9.frozen 0
    have f1 := m9.frozen 1
    have f2 := m9.frozen 2
    have f3 := m9.frozen 3
    have f4 := m9.frozen 4
    have h5 := holds_set5 (g := N) (ok' := fun b => w.heap.size ≤ b) hvb (fun b _ h => ⟨by omega, by omega⟩) (.int .i64 v.kind) (.slice u1 m1 u2) (.int .i64 v.ty.base) (.int .i64 v.idx) (.slice u3 m2 u4)
    have h6 := holdsR_set5 (g := N) (ok' := fun b => w.heap.size ≤ b) hvr (fun b _ h => ⟨by omega, by omega⟩) (.int .i64 v.kind) (.slice u1 m1 u2) (.int .i64 v.ty.base) (.int .i64 v.idx) (.slice u3 m2 u4)
    have b5 := (((((m9.set 0 (.int .i64 v.kind)).set 1 (.slice u1 m1 u2)).set 2 (.int .i64 v.ty.base)).set 3 (.int .i64 v.idx)).set 4 (.slice u3 m2 u4))
    have hO5 := (((((hO2.setNew hg9 0 (.int .i64 v.kind)).setNew hg9 1 (.slice u1 m1 u2)).setNew hg9 2 (.int .i64 v.ty.base)).setNew hg9 3 (.int .i64 v.idx)).setNew hg9 4 (.slice u3 m2 u4))
    go_wp2
    generalize (((((w1.setCell ⟨N, 0, none⟩ (.int .i64 v.kind)).setCell ⟨N, 1, none⟩ (.slice u1 m1 u2)).setCell ⟨N, 2, none⟩ (.int .i64 v.ty.base)).setCell ⟨N, 3, none⟩ (.int .i64 v.idx)).setCell ⟨N, 4, none⟩ (.slice u3 m2 u4)) = W5 at *
    have g0 : W5.cell? ⟨N, 0, none⟩ = some (.int .i64 v.kind) := b5.cell 0
    have g1 : W5.cell? ⟨N, 1, none⟩ = some (.slice u1 m1 u2) := b5.cell 1
    have g2 : W5.cell? ⟨N, 2, none⟩ = some (.int .i64 v.ty.base) := b5.cell 2
    have g3 : W5.cell? ⟨N, 3, none⟩ = some (.int .i64 v.idx) := b5.cell 3
    have g4 : W5.cell? ⟨N, 4, none⟩ = some (.slice u3 m2 u4) := b5.cell 4
    exact bodyPost_ret (v := rwv v.kind (.slice u1 m1 u2) v.ty.base v.idx (.slice u3 m2 u4)) (by simp [results, Try.results97, go_sem, g0, g1, g2, g3, g4]) rfl ⟨_, _, rfl, h5, h6, hO5⟩
  · have z : (i == (b : Int)) = false := by simp [h]
    clear hc1
    by_cases h2 : (b : Int) < i
    · have z2 : decide ((b : Int) < i) = true := by simp; omega
      have z2' : decide (i > (b : Int)) = true := by simp; omega
      obtain ⟨v, hv⟩ : ∃ v, substG t i b = v := ⟨_, rfl⟩
      have HV : Hid (hdR 0 (wrap64 (i - 1)) = v) := by show _ = _; rw [← hv]; unfold substG; rw [if_neg h, if_pos h2]
      have hcall := Head_calls 0 (wrap64 (i - 1)) W0
      rw [HV.out] at hcall
      rw [hv]
      clear h h2 hv HV
      go_enter Try.func97, Try.ntmps97
      go_upto_region 1 with fail
      rw [HW.out]
      clear HW
      go_wp2_with fail
      refine hcall.mono ?_
      rintro e w1 ⟨vb, vr, rfl, hvb, hvr, hO1⟩
      obtain ⟨u1, u2, rfl, _⟩ := hvb.shape
      obtain ⟨u3, u4, rfl, _⟩ := hvr.shape
      generalize v.ty.args.length = m1 at *
      generalize v.kids.length = m2 at *
      have m9 := b1.only hO1 (by simp)
      have hO2 : Only [] w w1 := hO0.trans hO1
      clear hcall a0 a1 a2 a3 a4
      have e0 := m9.cell 0
      have e1 := m9.cell 1
      have e2 := m9.cell 2
      have e3 := m9.cell 3
      have e4 := m9.cell 4
      have f0 := m9.frozen 0
      have f1 := m9.frozen 1
      have f2 := m9.frozen 2
      have f3 := m9.frozen 3
      have f4 := m9.frozen 4
      have h5 := holds_set5 (g := N) (ok' := fun b => w.heap.size ≤ b) hvb (fun b _ h => ⟨by omega, by omega⟩) (.int .i64 v.kind) (.slice u1 m1 u2) (.int .i64 v.ty.base) (.int .i64 v.idx) (.slice u3 m2 u4)
      have h6 := holdsR_set5 (g := N) (ok' := fun b => w.heap.size ≤ b) hvr (fun b _ h => ⟨by omega, by omega⟩) (.int .i64 v.kind) (.slice u1 m1 u2) (.int .i64 v.ty.base) (.int .i64 v.idx) (.slice u3 m2 u4)
      have b5 := (((((m9.set 0 (.int .i64 v.kind)).set 1 (.slice u1 m1 u2)).set 2 (.int .i64 v.ty.base)).set 3 (.int .i64 v.idx)).set 4 (.slice u3 m2 u4))
      have hO5 := (((((hO2.setNew hg9 0 (.int .i64 v.kind)).setNew hg9 1 (.slice u1 m1 u2)).setNew hg9 2 (.int .i64 v.ty.base)).setNew hg9 3 (.int .i64 v.idx)).setNew hg9 4 (.slice u3 m2 u4))
      go_wp2
      generalize (((((w1.setCell ⟨N, 0, none⟩ (.int .i64 v.kind)).setCell ⟨N, 1, none⟩ (.slice u1 m1 u2)).setCell ⟨N, 2, none⟩ (.int .i64 v.ty.base)).setCell ⟨N, 3, none⟩ (.int .i64 v.idx)).setCell ⟨N, 4, none⟩ (.slice u3 m2 u4)) = W5 at *
      have g0 : W5.cell? ⟨N, 0, none⟩ = some (.int .i64 v.kind) := b5.cell 0
      have g1 : W5.cell? ⟨N, 1, none⟩ = some (.slice u1 m1 u2) := b5.cell 1
      have g2 : W5.cell? ⟨N, 2, none⟩ = some (.int .i64 v.ty.base) := b5.cell 2
      have g3 : W5.cell? ⟨N, 3, none⟩ = some (.int .i64 v.idx) := b5.cell 3
      have g4 : W5.cell? ⟨N, 4, none⟩ = some (.slice u3 m2 u4) := b5.cell 4
      exact bodyPost_ret (v := rwv v.kind (.slice u1 m1 u2) v.ty.base v.idx (.slice u3 m2 u4)) (by simp [results, Try.results97, go_sem, g0, g1, g2, g3, g4]) rfl ⟨_, _, rfl, h5, h6, hO5⟩
    · have z2 : decide ((b : Int) < i) = false := by simp; omega
      have z2' : decide (i > (b : Int)) = false := by simp; omega
      obtain ⟨v, hv⟩ : ∃ v, substG t i b = v := ⟨_, rfl⟩
      have HV : Hid (hdR 0 i = v) := by show _ = _; rw [← hv]; unfold substG; rw [if_neg h, if_neg h2]
      have hcall := Head_calls 0 i W0
      rw [HV.out] at hcall
      rw [hv]
      clear h h2 hv HV
      go_enter Try.func97, Try.ntmps97
      go_upto_region 1 with fail
      rw [HW.out]
      clear HW
      go_wp2_with fail
      refine hcall.mono ?_
      rintro e w1 ⟨vb, vr, rfl, hvb, hvr, hO1⟩
      obtain ⟨u1, u2, rfl, _⟩ := hvb.shape
      obtain ⟨u3, u4, rfl, _⟩ := hvr.shape
      generalize v.ty.args.length = m1 at *
      generalize v.kids.length = m2 at *
      have m9 := b1.only hO1 (by simp)
      have hO2 : Only [] w w1 := hO0.trans hO1
      clear hcall a0 a1 a2 a3 a4
      have e0 := m9.cell 0
      have e1 := m9.cell 1
      have e2 := m9.cell 2
      have e3 := m9.cell 3
      have e4 := m9.cell 4
      have f0 := m9.frozen 0
      have f1 := m9.frozen 1
      have f2 := m9.frozen 2
      have f3 := m9.frozen 3
      have f4 := m9.frozen 4
      have h5 := holds_set5 (g := N) (ok' := fun b => w.heap.size ≤ b) hvb (fun b _ h => ⟨by omega, by omega⟩) (.int .i64 v.kind) (.slice u1 m1 u2) (.int .i64 v.ty.base) (.int .i64 v.idx) (.slice u3 m2 u4)
      have h6 := holdsR_set5 (g := N) (ok' := fun b => w.heap.size ≤ b) hvr (fun b _ h => ⟨by omega, by omega⟩) (.int .i64 v.kind) (.slice u1 m1 u2) (.int .i64 v.ty.base) (.int .i64 v.idx) (.slice u3 m2 u4)
      have b5 := (((((m9.set 0 (.int .i64 v.kind)).set 1 (.slice u1 m1 u2)).set 2 (.int .i64 v.ty.base)).set 3 (.int .i64 v.idx)).set 4 (.slice u3 m2 u4))
      have hO5 := (((((hO2.setNew hg9 0 (.int .i64 v.kind)).setNew hg9 1 (.slice u1 m1 u2)).setNew hg9 2 (.int .i64 v.ty.base)).setNew hg9 3 (.int .i64 v.idx)).setNew hg9 4 (.slice u3 m2 u4))
      go_wp2
      generalize (((((w1.setCell ⟨N, 0, none⟩ (.int .i64 v.kind)).setCell ⟨N, 1, none⟩ (.slice u1 m1 u2)).setCell ⟨N, 2, none⟩ (.int .i64 v.ty.base)).setCell ⟨N, 3, none⟩ (.int .i64 v.idx)).setCell ⟨N, 4, none⟩ (.slice u3 m2 u4)) = W5 at *
      have g0 : W5.cell? ⟨N, 0, none⟩ = some (.int .i64 v.kind) := b5.cell 0
      have g1 : W5.cell? ⟨N, 1, none⟩ = some (.slice u1 m1 u2) := b5.cell 1
      have g2 : W5.cell? ⟨N, 2, none⟩ = some (.int .i64 v.ty.base) := b5.cell 2
      have g3 : W5.cell? ⟨N, 3, none⟩ = some (.int .i64 v.idx) := b5.cell 3
      have g4 : W5.cell? ⟨N, 4, none⟩ = some (.slice u3 m2 u4) := b5.cell 4
      exact bodyPost_ret (v := rwv v.kind (.slice u1 m1 u2) v.ty.base v.idx (.slice u3 m2 u4)) (by simp [results, Try.results97, go_sem, g0, g1, g2, g3, g4]) rfl ⟨_, _, rfl, h5, h6, hO5⟩

set_option maxRecDepth 100000 in
set_option maxHeartbeats 1600000 in
theorem Subst_calls (t a : Rw) (ok : Nat → Prop) (sb sr sb' sr' : Value) (w : World) (hb : Holds w ok t.ty.args sb) (ha : HoldsR w ok t.kids sr) (hb' : Holds w ok a.ty.args sb') (ha' : HoldsR w ok a.kids sr') (hfit : t.fit) (hsz : t.size ≤ 2000000) (hfit' : a.fit) (hsz' : a.size ≤ 2000000) :
    Calls Try.prog 82 #[rwv t.kind sb t.ty.base t.idx sr, rwv a.kind sb' a.ty.base a.idx sr'] w (Made [] w (substR t a)) := by
  obtain ⟨x1, x2, hx, _⟩ := hb.shape
  obtain ⟨x3, x4, hx', _⟩ := ha.shape
  obtain ⟨y1, y2, hy, _⟩ := hb'.shape
  obtain ⟨y3, y4, hy', _⟩ := ha'.shape
  obtain ⟨N, hN⟩ : ∃ N, w.heap.size = N := ⟨_, rfl⟩
  generalize t.ty.args.length = n1 at hx
  generalize t.kids.length = n2 at hx'
  generalize a.ty.args.length = n3 at hy
  generalize a.kids.length = n4 at hy'
  subst hx hx' hy hy'
  obtain ⟨W0, hW0⟩ : ∃ W0, ((w.alloc (.cells #[.int .i64 t.kind, .slice x1 n1 x2, .int .i64 t.ty.base, .int .i64 t.idx, .slice x3 n2 x4] 35)).alloc (.cells #[.int .i64 a.kind, .slice y1 n3 y2, .int .i64 a.ty.base, .int .i64 a.idx, .slice y3 n4 y4] 35)).alloc (.cells #[.int .i64 0, .slice none 0 0, .int .i64 0, .int .i64 0, .slice none 0 0] 35) = W0 := ⟨_, rfl⟩
  have b0 : Blk W0 N 35 #[.int .i64 t.kind, .slice x1 n1 x2, .int .i64 t.ty.base, .int .i64 t.idx, .slice x3 n2 x4] := by rw [← hW0]; exact ((Blk.new' w N 35 _ hN).alloc _).alloc _
  have b2 : Blk W0 (N + 1) 35 #[.int .i64 a.kind, .slice y1 n3 y2, .int .i64 a.ty.base, .int .i64 a.idx, .slice y3 n4 y4] := by rw [← hW0]; exact (Blk.new' _ (N + 1) 35 _ (by simp [hN])).alloc _
  have b1 : Blk W0 (N + 1 + 1) 35 #[.int .i64 0, .slice none 0 0, .int .i64 0, .int .i64 0, .slice none 0 0] := by rw [← hW0]; exact Blk.new' _ (N + 1 + 1) 35 _ (by simp [hN])
  have bl : Below N w W0 := by rw [← hW0]; exact (((Below.refl N w).alloc (by omega) _).alloc (by simp; omega) _).alloc (by simp; omega) _
  have hO0 : Only [] w W0 := Only.of_below' (by rw [hN]; exact bl)
  have hG := subst1_calls a (N + 1) W0 ok _ _ _ _ _ _ b2 (hb'.bel (hN ▸ bl)) (ha'.bel (hN ▸ bl)) hfit' hsz'
  have hcall := turn97_calls (.pointer (some ⟨N + 1, 0, none⟩)) W0 (substG a) hG t hfit 0 ok _ _ W0 (Only.refl _ _) (by omega) (hb.bel (hN ▸ bl)) (ha.bel (hN ▸ bl))
  have hz : W0.heap.size = N + 1 + 1 + 1 := by rw [← hW0]; simp [hN]
  have hg9 : w.heap.size ≤ N + 1 + 1 := by omega
  have HW : Hid _ := hW0
  have c0 := b0.cell 0
  have c1 := b0.cell 1
  have c2 := b0.cell 2
  have c3 := b0.cell 3
  have c4 := b0.cell 4
  have HV : Hid (t.turn (substG a) 0 = substR t a) := rfl
  rw [HV.out] at hcall
  obtain ⟨v, hv⟩ : ∃ v, substR t a = v := ⟨_, rfl⟩
  rw [hv] at hcall ⊢
  clear hW0 hb ha hb' ha' hfit hfit' hG HV hv
  go_enter Try.func82, Try.ntmps82
  go_upto_region 1 with fail
  rw [HW.out]
  clear HW
  go_wp2_with fail
  refine hcall.mono ?_
  rintro e w1 ⟨vb, vr, rfl, hvb, hvr, hO1⟩
  obtain ⟨u1, u2, rfl, _⟩ := hvb.shape
  obtain ⟨u3, u4, rfl, _⟩ := hvr.shape
  generalize v.ty.args.length = m1 at *
  generalize v.kids.length = m2 at *
  have m9 := b1.only hO1 (by simp)
  have hO2 : Only [] w w1 := hO0.trans hO1
  clear hcall c0 c1 c2 c3 c4
  have e0 := m9.cell 0
  have e1 := m9.cell 1
  have e2 := m9.cell 2
  have e3 := m9.cell 3
  have e4 := m9.cell 4
  have f0 := m9.frozen 0
  have f1 := m9.frozen 1
  have f2 := m9.frozen 2
  have f3 := m9.frozen 3
  have f4 := m9.frozen 4
  have h5 := holds_set5 (g := N + 1 + 1) (ok' := fun b => w.heap.size ≤ b) hvb (fun b _ h => ⟨by omega, by omega⟩) (.int .i64 v.kind) (.slice u1 m1 u2) (.int .i64 v.ty.base) (.int .i64 v.idx) (.slice u3 m2 u4)
  have h6 := holdsR_set5 (g := N + 1 + 1) (ok' := fun b => w.heap.size ≤ b) hvr (fun b _ h => ⟨by omega, by omega⟩) (.int .i64 v.kind) (.slice u1 m1 u2) (.int .i64 v.ty.base) (.int .i64 v.idx) (.slice u3 m2 u4)
  have b5 := (((((m9.set 0 (.int .i64 v.kind)).set 1 (.slice u1 m1 u2)).set 2 (.int .i64 v.ty.base)).set 3 (.int .i64 v.idx)).set 4 (.slice u3 m2 u4))
  have hO5 := (((((hO2.setNew hg9 0 (.int .i64 v.kind)).setNew hg9 1 (.slice u1 m1 u2)).setNew hg9 2 (.int .i64 v.ty.base)).setNew hg9 3 (.int .i64 v.idx)).setNew hg9 4 (.slice u3 m2 u4))
  go_wp2
  generalize (((((w1.setCell ⟨N + 1 + 1, 0, none⟩ (.int .i64 v.kind)).setCell ⟨N + 1 + 1, 1, none⟩ (.slice u1 m1 u2)).setCell ⟨N + 1 + 1, 2, none⟩ (.int .i64 v.ty.base)).setCell ⟨N + 1 + 1, 3, none⟩ (.int .i64 v.idx)).setCell ⟨N + 1 + 1, 4, none⟩ (.slice u3 m2 u4)) = W5 at *
  have g0 : W5.cell? ⟨N + 1 + 1, 0, none⟩ = some (.int .i64 v.kind) := b5.cell 0
  have g1 : W5.cell? ⟨N + 1 + 1, 1, none⟩ = some (.slice u1 m1 u2) := b5.cell 1
  have g2 : W5.cell? ⟨N + 1 + 1, 2, none⟩ = some (.int .i64 v.ty.base) := b5.cell 2
  have g3 : W5.cell? ⟨N + 1 + 1, 3, none⟩ = some (.int .i64 v.idx) := b5.cell 3
  have g4 : W5.cell? ⟨N + 1 + 1, 4, none⟩ = some (.slice u3 m2 u4) := b5.cell 4
  exact bodyPost_ret (v := rwv v.kind (.slice u1 m1 u2) v.ty.base v.idx (.slice u3 m2 u4)) (by simp [results, Try.results82, go_sem, g0, g1, g2, g3, g4]) rfl ⟨_, _, rfl, h5, h6, hO5⟩

end Go.Proofs.Ytckagmagjogmnaa
