/-
  ToT: several texts in one file: MkT, ToT.
-/
import Derived.Test.YtckagmagjogmnaaHeadsS
import Derived.Test.YtckagmagjogmnaaMk
import Derived.Test.YtckagmagjogmnaaWld
import Derived.Deep.RegionHeld3
import Derived.Deep.DeepCutAuto
import Derived.Test.YtckagmagjogmnaaToR
namespace Go.Proofs.Ytckagmagjogmnaa
open Go Go.RowKit

/-- What a term's cells hold: its binders' slice, its arguments' slice, the term. -/
structure Tc where
  sb : Value
  sr : Value
  t : Tm
/-- The cells of terms. -/
def tcells : List Tc → List Value
  | [] => []
  | p :: r => p.sb :: .int .i64 p.t.kind :: .int .i64 p.t.idx :: p.sr :: tcells r
theorem tcells_append (a b : List Tc) : tcells (a ++ b) = tcells a ++ tcells b := by
  induction a with
  | nil => rfl
  | cons p a ih => simp [tcells, ih]
theorem tcells_length (a : List Tc) : (tcells a).length = a.length * 4 := by
  induction a with
  | nil => rfl
  | cons p a ih => simp [tcells, ih]; omega
theorem tcells_get (a : List Tc) (i : Nat) (p : Tc) (h : a[i]? = some p) : (tcells a)[i * 4]? = some p.sb ∧ (tcells a)[i * 4 + 1]? = some (.int .i64 p.t.kind) ∧ (tcells a)[i * 4 + 2]? = some (.int .i64 p.t.idx) ∧ (tcells a)[i * 4 + 3]? = some p.sr := by
  induction a generalizing i with
  | nil => simp at h
  | cons q a ih =>
    cases i with
    | zero => simp at h; subst h; simp [tcells]
    | succ i =>
      have := ih i (by simpa using h)
      rw [show (i + 1) * 4 = i * 4 + 1 + 1 + 1 + 1 by omega]
      simpa [tcells] using this

/-- THE SLICE v OF TERMS, OF ELEMENTS OF TYPE e, IS BEING MADE in blocks from M on: so far of these. -/
structure MkT (w : World) (M : Nat) (e : TypeId) (v : Value) (ps : List Tc) : Prop where
  row : w.ownsRow M e 4 v ps.length (tcells ps)
  bnd : ∀ p ∈ ps, Holds w (fun b => M ≤ b ∧ v.ownBlock ≠ some b) p.t.binds p.sb
  kid : ∀ p ∈ ps, HoldsT w (fun b => M ≤ b ∧ v.ownBlock ≠ some b) p.t.args p.sr

theorem MkT.nil (w : World) (M : Nat) (e : TypeId) : MkT w M e (.slice none 0 0) [] := ⟨World.ownsRow_nil w M e 4, (fun p hp => by cases hp), (fun p hp => by cases hp)⟩
theorem MkT.keep {w w' : World} {M : Nat} {e : TypeId} {v : Value} {ps : List Tc} (h : MkT w M e v ps) (hk : ∀ b, M ≤ b → b < w.heap.size → w'.heap[b]? = w.heap[b]?) : MkT w' M e v ps := by
  refine ⟨?_, fun p hp => (h.bnd p hp).keep fun b hb ho => ⟨hk b ho.1 hb, ho⟩, fun p hp => (h.kid p hp).keep fun b hb ho => ⟨hk b ho.1 hb, ho⟩⟩
  obtain ⟨h1, h2⟩ := h.row
  refine ⟨h1, ?_⟩
  rcases h2 with h2 | ⟨g, cap, cur, e1, e2, e3, e4⟩
  · exact .inl h2
  · refine .inr ⟨g, cap, cur, e1, e2, ?_, e4⟩
    have hlt : g < w.heap.size := (Array.getElem?_eq_some_iff.1 e3).1
    rw [hk g e2 hlt]
    exact e3
theorem MkT.bel {w w' : World} {M : Nat} {e : TypeId} {v : Value} {ps : List Tc} (h : MkT w M e v ps) (hb : Below w.heap.size w w') : MkT w' M e v ps := h.keep fun b _ hl => hb.block b hl
theorem MkT.set {w : World} {M : Nat} {e : TypeId} {v : Value} {ps : List Tc} (h : MkT w M e v ps) {R : Nat} (hR : R < M) (i : Nat) (u : Value) : MkT (w.setCell ⟨R, i, none⟩ u) M e v ps :=
  h.keep fun b hb _ => Below.heap_setCell w ⟨R, i, none⟩ u b (show b ≠ R by omega)
theorem MkT.lt {w : World} {M : Nat} {e : TypeId} {v : Value} {ps : List Tc} (h : MkT w M e v ps) (b : Nat) (hb : v.ownBlock = some b) : M ≤ b ∧ b < w.heap.size := h.row.lt b hb
theorem MkT.snoc {w w3 : World} {M L k : Nat} {e : TypeId} {v : Value} {ps : List Tc} {x : Tc} {g cap : Nat} (h : MkT w M e v ps) (hk : ps.length = k) (hb : Holds w (fun b => L ≤ b) x.t.binds x.sb) (hs : HoldsT w (fun b => L ≤ b) x.t.args x.sr) (hML : M ≤ L)
    (hvL : ∀ b, v.ownBlock = some b → b < L) (hg : w.grownBy w3 v.ownBlock) (hat : v.ownBlock = some g ∨ g = w.heap.size)
    (hown : w3.ownsRow M e 4 (.slice (some ⟨g, 0, none⟩) (k + 1) cap) (k + 1) (tcells ps ++ [x.sb, .int .i64 x.t.kind, .int .i64 x.t.idx, x.sr])) : MkT w3 M e (.slice (some ⟨g, 0, none⟩) (k + 1) cap) (ps ++ [x]) := by
  have hgo : (Value.slice (some ⟨g, 0, none⟩) (k + 1) cap).ownBlock = some g := rfl
  have hb3 : ∀ b, b < w.heap.size → v.ownBlock ≠ some b → w3.heap[b]? = w.heap[b]? := fun b hb hn => hg.block b hb (fun e => hn e.symm)
  have hne : ∀ b, b < w.heap.size → v.ownBlock ≠ some b → (some g : Option Nat) ≠ some b := fun b hb hn e => by
    cases e
    rcases hat with h1 | h1
    · exact hn h1
    · omega
  have hnew : ∀ b, b < w.heap.size → L ≤ b → w3.heap[b]? = w.heap[b]? ∧ M ≤ b ∧ (Value.slice (some ⟨g, 0, none⟩) (k + 1) cap).ownBlock ≠ some b := fun b hb ho => by
    have hn : v.ownBlock ≠ some b := fun e => by have := hvL b e; omega
    exact ⟨hb3 b hb hn, Nat.le_trans hML ho, by rw [hgo]; exact hne b hb hn⟩
  have hold : ∀ b, b < w.heap.size → (M ≤ b ∧ v.ownBlock ≠ some b) → w3.heap[b]? = w.heap[b]? ∧ M ≤ b ∧ (Value.slice (some ⟨g, 0, none⟩) (k + 1) cap).ownBlock ≠ some b := fun b hb ho => ⟨hb3 b hb ho.2, ho.1, by rw [hgo]; exact hne b hb ho.2⟩
  refine ⟨by rw [List.length_append, tcells_append, hk]; exact hown, fun p hp => ?_, fun p hp => ?_⟩
  · rcases List.mem_append.1 hp with hp | hp
    · exact (h.bnd p hp).keep hold
    · obtain rfl : p = x := by simpa using hp
      exact hb.keep hnew
  · rcases List.mem_append.1 hp with hp | hp
    · exact (h.kid p hp).keep hold
    · obtain rfl : p = x := by simpa using hp
      exact hs.keep hnew
theorem MkT.holds {w : World} {M : Nat} {e : TypeId} {v : Value} {ps : List Tc} (h : MkT w M e v ps) : HoldsT w (fun b => M ≤ b) (ps.map (·.t)) v := by
  have h' := h.row
  obtain ⟨h1, h2⟩ := h.row
  rcases h2 with ⟨rfl, h2⟩ | ⟨g, cap, cur, rfl, e2, e3, e4, e5, e6⟩
  · have : ps = [] := List.eq_nil_of_length_eq_zero h2
    subst this
    exact HoldsT.nil _ _ _ _ (fun _ => rfl)
  · have hc := World.ownsRow.cellAt h'
    have hq : ∀ (i : Nat) (u : Tm), (ps.map (·.t))[i]? = some u → ∃ p : Tc, ps[i]? = some p ∧ p.t = u := by
      intro i u hi
      rw [List.getElem?_map] at hi
      exact Option.map_eq_some_iff.1 hi
    have := HoldsT.mk (w := w) (ok := fun b => M ≤ b) (ps.map (·.t)) (some ⟨g, 0, none⟩) cap (fun i => ((ps[i]?).map (·.sb)).getD undef) (fun i => ((ps[i]?).map (·.sr)).getD undef) (by simpa using e4) (fun h => by cases h)
      (fun i u hi => by
        obtain ⟨p, hp, rfl⟩ := hq i u hi
        obtain ⟨c0, c1, c2, c3⟩ := tcells_get ps i p hp
        have hil := (List.getElem?_eq_some_iff.1 hp).1
        refine ⟨g, 0, rfl, e2, ?_, ?_, ?_, ?_⟩
        · rw [Nat.zero_add, hc _ (by omega), c0, hp]; rfl
        · rw [Nat.zero_add, hc _ (by omega), c1]
        · rw [Nat.zero_add, hc _ (by omega), c2]
        · rw [Nat.zero_add, hc _ (by omega), c3, hp]; rfl)
      (fun i u hi => by
        obtain ⟨p, hp, rfl⟩ := hq i u hi
        rw [hp]
        exact (h.bnd p (List.mem_of_getElem? hp)).mono fun b _ ho => ho.1)
      (fun i u hi => by
        obtain ⟨p, hp, rfl⟩ := hq i u hi
        rw [hp]
        exact (h.kid p (List.mem_of_getElem? hp)).mono fun b _ ho => ho.1)
    rwa [List.length_map] at this

end Go.Proofs.Ytckagmagjogmnaa

namespace Go.Proofs.Ytckagmagjogmnaa
open Go Go.RowKit

theorem holds_set4 {w : World} {ok ok' : Nat → Prop} {ts : List Ty} {v : Value} {g : Nat} (h : Holds w ok ts v) (hg : ∀ b, b < w.heap.size → ok b → b ≠ g ∧ ok' b) (x0 x1 x2 x3 : Value) : Holds ((((w.setCell ⟨g, 0, none⟩ x0).setCell ⟨g, 1, none⟩ x1).setCell ⟨g, 2, none⟩ x2).setCell ⟨g, 3, none⟩ x3) ok' ts v :=
  h.keep fun b hb ho => ⟨(Below.heap_setCell _ ⟨g, 3, none⟩ x3 b (hg b hb ho).1).trans ((Below.heap_setCell _ ⟨g, 2, none⟩ x2 b (hg b hb ho).1).trans ((Below.heap_setCell _ ⟨g, 1, none⟩ x1 b (hg b hb ho).1).trans (Below.heap_setCell w ⟨g, 0, none⟩ x0 b (hg b hb ho).1))), (hg b hb ho).2⟩
theorem MkT.alloc {w : World} {M : Nat} {e : TypeId} {v : Value} {ps : List Tc} (h : MkT w M e v ps) (o : Obj) : MkT (w.alloc o) M e v ps := h.bel ((Below.refl _ _).alloc (Nat.le_refl _) o)
theorem MkT.drew {w : World} {M : Nat} {e : TypeId} {v : Value} {ps : List Tc} (h : MkT w M e v ps) : MkT w.drew M e v ps := h.keep fun _ _ _ => rfl
theorem cell_four_new (w : World) (x y z u : Value) (t : TypeId) : ∀ j v, [x, y, z, u][j]? = some v → (w.alloc (.cells #[x, y, z, u] t)).cell? ((⟨w.heap.size, 0, none⟩ : Addr).add j) = some v := by
  intro j v h
  have hb := Blk.new w t #[x, y, z, u]
  match j, h with
  | 0, h => cases h; exact hb.cell 0
  | 1, h => cases h; exact hb.cell 1
  | 2, h => cases h; exact hb.cell 2
  | 3, h => cases h; exact hb.cell 3
theorem info34 : (Try.prog.info? 76).map (fun i => (i.zero, i.size, i.bytes)) = some (some (.agg #[.slice none 0 0, .int .i64 0, .int .i64 0, .slice none 0 0]), 4, 64) := by kernel_rfl
theorem info27Q : (Try.prog.info? 71).map (fun i => (i.zero, i.size, i.bytes)) = some (some (.agg #[.slice none 0 0, .int .i64 0, .int .i64 0, .slice none 0 0]), 4, 64) := by kernel_rfl
/-- To's own word of one term -/
def ToAtQ (t : Tm) : Prop := ∀ (ok : Nat → Prop) (sb sr : Value) (w : World), Holds w ok t.binds sb → HoldsT w ok t.args sr → t.total ≤ 1000000 →
    Calls Try.prog 33 #[tmv sb t.kind t.idx sr] w fun e w' => ∃ vb vr, e = .returned (tmv vb t.kind t.idx vr) ∧ Holds w' (fun b => w.heap.size ≤ b) t.binds vb ∧ HoldsT w' (fun b => w.heap.size ≤ b) t.args vr ∧ Below w.heap.size w w'

set_option maxRecDepth 100000 in
set_option maxHeartbeats 3200000 in
theorem ToT_calls (t : Tm) : ToAtQ t := by
  induction t using Tm.ind with
  | h t ih =>
  intro ok sb sr w hb hr hsz
  have htot := t.total_eq
  obtain ⟨ba, bc, hsb, _⟩ := hb.shape
  obtain ⟨bn, hbn⟩ : ∃ bn, t.binds.length = bn := ⟨_, rfl⟩
  rw [hbn] at hsb
  subst hsb
  obtain ⟨ts, hts⟩ : ∃ ts, t.args = ts := ⟨_, rfl⟩
  rw [hts] at hr ih htot ⊢
  obtain ⟨a, cap, rfl, hcap, hat⟩ := hr.shape
  have HA : Hid _ := hat
  have hln := totalT_length ts
  obtain ⟨N, hN⟩ : ∃ N, w.heap.size = N := ⟨_, rfl⟩
  have HN : Hid (w.heap.size = N) := hN
  generalize hk : t.kind = k at *
  generalize hx : t.idx = x at *
  rw [hN]
  clear hat
  obtain ⟨W0, hW0⟩ : ∃ W0, (w.alloc (.cells #[.slice ba bn bc, .int .i64 k, .int .i64 x, .slice a ts.length cap] 71)).alloc (.cells #[.slice none 0 0, .int .i64 0, .int .i64 0, .slice none 0 0] 76) = W0 := ⟨_, rfl⟩
  have b0 : Blk W0 N 71 #[.slice ba bn bc, .int .i64 k, .int .i64 x, .slice a ts.length cap] := by rw [← hW0]; exact (Blk.new' w N 71 _ hN).alloc _
  have b1 : Blk W0 (N + 1) 76 #[.slice none 0 0, .int .i64 0, .int .i64 0, .slice none 0 0] := by rw [← hW0]; exact Blk.new' _ (N + 1) 76 _ (by simp [hN])
  have hz0 : W0.heap.size = N + 2 := by rw [← hW0]; simp [hN]
  have bl0 : Below N w W0 := by rw [← hW0]; exact ((Below.refl N w).alloc (by omega) _).alloc (by simp; omega) _
  have hb0 : Holds W0 ok t.binds (.slice ba bn bc) := hb.bel (by rw [hN]; exact bl0)
  have HW : Hid _ := hW0
  have hsb : sizeL t.binds ≤ 1000000 := by omega
  clear hW0
  go_enter Try.func33, Try.ntmps33
  go_upto_region 1 with fail
  rw [HW.out]
  clear HW
  go_cut [3] (fun s3 wx => ∃ (R : Nat) (va : Option Addr) (vc : Nat), s3 = .pointer (some ⟨R, 0, none⟩) ∧ N + 2 ≤ R ∧ Blk wx R 76 #[.slice va bn vc, .int .i64 k, .int .i64 x, .slice none 0 0] ∧ Holds wx (fun b => N + 2 ≤ b ∧ b ≠ R) t.binds (.slice va bn vc) ∧ Below (N + 2) W0 wx)
  case first =>
    have c0 := b0.cell 0
    have c1 := b0.cell 1
    have c2 := b0.cell 2
    have hK : ∀ v, Cur W0 v → v.cell? ⟨N, 0, none⟩ = some (.slice ba bn bc) ∧ v.cell? ⟨N, 1, none⟩ = some (.int .i64 k) ∧ v.cell? ⟨N, 2, none⟩ = some (.int .i64 x) := fun v hv => ⟨hv.cell c0, hv.cell c1, hv.cell c2⟩
    have k33 : ∀ cur, Cur W0 cur → Calls Try.prog 22 #[.slice ba bn bc] cur fun e w' => ∃ va vc, e = .returned (.slice va bn vc) ∧ Holds w' (fun b => cur.heap.size ≤ b) t.binds (.slice va bn vc) ∧ Below cur.heap.size cur w' ∧ Cur W0 w' := fun cur hc =>
      (TypesT_calls t.binds ok _ cur (hc.holds hb0) hsb).mono fun e w' ⟨v, h1, h2, h3⟩ => by
        obtain ⟨va, vc, rfl, _⟩ := h2.shape
        rw [hbn] at h1 h2
        exact ⟨va, vc, h1, h2, h3, hc.then h3⟩
    have hZ : Blk (W0.alloc (.cells #[.slice none 0 0, .int .i64 0, .int .i64 0, .slice none 0 0] 76)).drew (N + 2) 76 #[.slice none 0 0, .int .i64 0, .int .i64 0, .slice none 0 0] := Blk.new' W0 (N + 2) 76 _ hz0
    have hzz : W0.heap.size ≤ N + 2 := by omega
    have hcur := Cur.refl W0
    go_region_held3 (fun v => v.cell? ⟨N, 0, none⟩ = some (.slice ba bn bc) ∧ v.cell? ⟨N, 1, none⟩ = some (.int .i64 k) ∧ v.cell? ⟨N, 2, none⟩ = some (.int .i64 x))
      (first | with_reducible exact hK _ (by first | with_reducible assumption | (with_reducible refine Cur.drew ?_; assumption) | (with_reducible refine Cur.alloc ?_ _; assumption) | (with_reducible refine Cur.drew (Cur.alloc ?_ _); assumption) | (with_reducible refine Cur.alloc (Cur.drew ?_) _; assumption) | (with_reducible refine Cur.set (Cur.set (Cur.set (Cur.set ?_ hzz _ _) hzz _ _) hzz _ _) hzz _ _; assumption)))
      (first | (go_at_call 22; refine (k33 _ (by first | with_reducible assumption | (with_reducible refine Cur.drew ?_; assumption) | (with_reducible refine Cur.alloc ?_ _; assumption) | (with_reducible refine Cur.drew (Cur.alloc ?_ _); assumption) | (with_reducible refine Cur.alloc (Cur.drew ?_) _; assumption) | (with_reducible refine Cur.set (Cur.set (Cur.set (Cur.set ?_ hzz _ _) hzz _ _) hzz _ _) hzz _ _; assumption))).mono ?_; rintro e y33 ⟨va, vc, rfl, hv33, hb33, hc33⟩; try (with_reducible have bR := hZ.below hb33 hZ.lt; have r0 := bR.cell 0; have r1 := bR.cell 1; have r2 := bR.cell 2; have r3 := bR.cell 3; have g0 := bR.frozen 0; have g1 := bR.frozen 1; have g2 := bR.frozen 2; have g3 := bR.frozen 3)))
    · have hs3 := Below.size hc33
      have hs4 : W0.drew.heap.size = N + 2 := hz0
      go_wp2_with fail
      go_meet
      refine ⟨y33.heap.size, va, vc, rfl, by omega, Blk.new y33 76 _, (hv33.mono fun b h1 h2 => ⟨by omega, by omega⟩).alloc _, ?_⟩
      have h9 := hc33.alloc (.cells #[.slice va bn vc, .int .i64 k, .int .i64 x, .slice none 0 0] 76)
      unfold Cur at h9
      rwa [hz0] at h9
    · have hs4 : (W0.alloc (.cells #[.slice none 0 0, .int .i64 0, .int .i64 0, .slice none 0 0] 76)).drew.heap.size = N + 3 := by show (W0.alloc _).heap.size = _; simp [hz0]
      go_wp2_with fail
      go_meet
      refine ⟨N + 2, va, vc, rfl, Nat.le_refl _, (((bR.set 0 (.slice va bn vc)).set 1 (.int .i64 k)).set 2 (.int .i64 x)).set 3 (.slice none 0 0), holds_set4 hv33 (fun b h1 h2 => ⟨by omega, by omega, by omega⟩) _ _ _ _, ?_⟩
      have h9 := (((hc33.set hzz 0 (.slice va bn vc)).set hzz 1 (.int .i64 k)).set hzz 2 (.int .i64 x)).set hzz 3 (.slice none 0 0)
      unfold Cur at h9
      rwa [hz0] at h9
  case rest =>
  obtain ⟨R, va, vc, rfl, hR, bR, hvb, hbc⟩ := hcut
  have b0c := b0.below hbc (by omega)
  have b1c := b1.below hbc (by omega)
  have blc : Below N w wc := bl0.trans (hbc.mono (by omega))
  obtain ⟨M, hM⟩ : ∃ M, wc.heap.size = M := ⟨_, rfl⟩
  have hRM : R < M := by rw [← hM]; exact bR.lt
  have hvb2 : Holds wc (fun b => N + 2 ≤ b ∧ b ≠ R ∧ b < M) t.binds (.slice va bn vc) := hvb.mono fun b h1 h2 => ⟨by omega, h2.2, by omega⟩
  have HIH : Hid (∀ u ∈ ts, ToAtQ u) := ih
  obtain ⟨i0, hi, hz0', hz1, hz2⟩ := info_parts info34
  clear b0 b1 bl0 hbc hvb hb0 hz0 ih hb hr
  go_wp2_with fail
  go_loopw [4] (fun i wr => ∃ (j : Nat) (vk : Value) (ps : List Tc), j ≤ ts.length ∧ i = .int .i64 j ∧ Hid (ps.map (·.t) = ts.take j) ∧ Blk wr N 71 #[.slice ba bn bc, .int .i64 k, .int .i64 x, .slice a ts.length cap] ∧ Blk wr (N + 1) 76 #[.slice none 0 0, .int .i64 0, .int .i64 0, .slice none 0 0] ∧ Blk wr R 76 #[.slice va bn vc, .int .i64 k, .int .i64 x, vk] ∧ M ≤ wr.heap.size ∧ MkT wr M 76 vk ps ∧ Holds wr (fun b => N + 2 ≤ b ∧ b ≠ R ∧ b < M) t.binds (.slice va bn vc) ∧ Below N w wr)
    (fun i _ => ts.length - (intOf i).toNat)
  case atStart => exact ⟨0, _, [], Nat.zero_le _, rfl, rfl, b0c, b1c, bR, (by omega), MkT.nil _ _ _, hvb2, blc⟩
  case round =>
    clear b0c b1c bR hvb2 blc hM
    obtain ⟨j, vk, ps, hj, rfl, HP, hb0, hb1, hb2, hMw, hmk, hvb, hbl⟩ := hrel
    have r0 := hb0.cell 3
    have t0 := hb2.cell 3
    have hRw : R < wr.heap.size := hb2.lt
    have hpl : ps.length = j := by have := congrArg List.length HP.out; simp at this; omega
    by_cases hlt : j < ts.length
    · subst hpl
      obtain ⟨j, hjj⟩ : ∃ j, ps.length = j := ⟨_, rfl⟩
      rw [hjj] at hlt hj HP ⊢
      have HKK : Hid (ps.length = j) := hjj
      clear hjj
      obtain ⟨u, hu⟩ : ∃ u, ts[j]? = some u := ⟨_, List.getElem?_eq_getElem hlt⟩
      obtain ⟨g, o, s, r, rfl, _, hg, a0, a1, a2, a3, hs, hsr⟩ := HA.out j u hu
      rw [HN.out] at hg
      have q0 := (cat hbl hg).trans a0
      have q1 := (cat hbl hg).trans a1
      have q2 := (cat hbl hg).trans a2
      have q3 := (cat hbl hg).trans a3
      have hm := List.mem_of_getElem? hu
      have hus := total_mem hm
      have y1 : (0 : Int) ≤ (j : Int) := by omega
      have y2 : (j : Int) < (ts.length : Int) := by omega
      have HP2 : Hid (ps.map (·.t) ++ [u] = ts.take (j + 1)) := by show _ = _; rw [HP.out, List.take_add_one, hu]; rfl
      have hs2 : Holds wr ok u.binds s := hs.bel (by rw [HN.out]; exact hbl)
      have hr2 : HoldsT wr ok u.args r := hsr.bel (by rw [HN.out]; exact hbl)
      have hnR : vk.ownBlock ≠ some R := fun e => by have := (hmk.lt R e).1; omega
      have hn0 : vk.ownBlock ≠ some N := fun e => by have := (hmk.lt N e).1; omega
      have hn1 : vk.ownBlock ≠ some (N + 1) := fun e => by have := (hmk.lt (N + 1) e).1; omega
      have HL : Hid (∀ b, vk.ownBlock = some b → b < wr.heap.size) := fun b hb => (hmk.lt b hb).2
      obtain ⟨s1, s2, rfl, _⟩ := hs.shape
      obtain ⟨s3, s4, rfl, _⟩ := hsr.shape
      generalize u.binds.length = ubn at *
      generalize u.args.length = uan at *
      have hcall := HIH.out u hm ok _ _ wr.drew hs2.drew hr2.drew (by omega)
      clear a0 a1 a2 a3 hu hs hsr HP hs2 hr2
      go_wp2_with fail
      go_region_law (first
          | (refine step_append_lies _ rfl _ _ 74 rfl M 76 i0 _ 4 64 Try.underlying74 hi hz0' hz1 hz2 rfl (by decide) _ j (tcells ps) rfl (by have := hmk2.row.alloc (.cells #[.slice x1 en x2, .int .i64 u.kind, .int .i64 u.idx, .slice x3 em x4] 76); rwa [HKK.out] at this) ⟨w2.heap.size, 0, none⟩ 1 1 [.slice x1 en x2, .int .i64 u.kind, .int .i64 u.idx, .slice x3 em x4] rfl rfl (cell_four_new _ _ _ _ _ _) (by simp [Value.oneCell']) (by omega) (by unfold maxLen; omega) (by omega) (by simp; omega) _ rfl ?_; intro g2 cap2 w3 hown3 hgrow3 hat3 hlt3; have hap := appended hgrow3 hb2 hbb hnR; have p3 := hap.cell 3; have pf := fun j => hap.frozen j)
          | (go_simp; go_at_call 33; refine hcall.mono ?_; rintro e w2 ⟨vb2, vr2, rfl, hvb2, hvr2, hbb⟩; obtain ⟨x1, x2, rfl, _⟩ := hvb2.shape; obtain ⟨x3, x4, rfl, _⟩ := hvr2.shape; generalize u.binds.length = en at *; generalize u.args.length = em at *; have z3 := (hbb.cell (p := ⟨R, 3, none⟩) hRw).trans t0; have hmk2 := hmk.drew.bel hbb; have hwz : wr.heap.size ≤ w2.heap.size := hbb.size; have z3a := cell_alloc_old hbb hRw t0))
      all_goals
        have hB2 : Below N w w2 := hbl.drew.trans (hbb.mono (by show N ≤ wr.heap.size; omega))
        have hB3 : Below N w w3 := (hB2.alloc (by omega) _).grown hgrow3 (by simp; omega) (fun j hj => by have := (hmk2.lt j hj).1; omega)
        have hmk3 := (hmk2.alloc (.cells #[.slice x1 en x2, .int .i64 u.kind, .int .i64 u.idx, .slice x3 em x4] 76)).snoc (cap := cap2) (x := ⟨.slice x1 en x2, .slice x3 em x4, u⟩) HKK.out (hvb2.alloc _) (hvr2.alloc _) hMw HL.out hgrow3 hat3 hown3
        have e0 := (appended hgrow3 hb0 hbb hn0).other (B' := R) (by omega) 3 (.slice (some ⟨g2, 0, none⟩) (j + 1) cap2)
        have e1 := (appended hgrow3 hb1 hbb hn1).other (B' := R) (by omega) 3 (.slice (some ⟨g2, 0, none⟩) (j + 1) cap2)
        have e2 := hap.set 3 (.slice (some ⟨g2, 0, none⟩) (j + 1) cap2)
        have hmk4 := hmk3.set (R := R) (by omega) 3 (.slice (some ⟨g2, 0, none⟩) (j + 1) cap2)
        have hB4 : Below N w (w3.setCell ⟨R, 3, none⟩ (.slice (some ⟨g2, 0, none⟩) (j + 1) cap2)) := bset hB3 (by omega) _
        have hvb4 : Holds (w3.setCell ⟨R, 3, none⟩ (.slice (some ⟨g2, 0, none⟩) (j + 1) cap2)) (fun b => N + 2 ≤ b ∧ b ≠ R ∧ b < M) t.binds (.slice va bn vc) := by
          have h5 := (hvb.drew.bel hbb).alloc (.cells #[.slice x1 en x2, .int .i64 u.kind, .int .i64 u.idx, .slice x3 em x4] 76)
          refine h5.keep fun b hb ho => ⟨?_, ho⟩
          have h6 : vk.ownBlock ≠ some b := fun e => by have := (hmk2.lt b e).1; omega
          exact (Below.heap_setCell w3 ⟨R, 3, none⟩ _ b ho.2.1).trans (hgrow3.block b hb (fun e => h6 e.symm))
        have hM4 : M ≤ (w3.setCell ⟨R, 3, none⟩ (.slice (some ⟨g2, 0, none⟩) (j + 1) cap2)).heap.size := by have := hmk4.lt g2 rfl; omega
        clear hown3 hgrow3 hat3 hlt3 hB2 hB3 hmk2 hmk3 z3a z3 hbb p3 pf hap hvb
        generalize w3.setCell ⟨R, 3, none⟩ (.slice (some ⟨g2, 0, none⟩) (j + 1) cap2) = W4 at *
        go_wp2
        exact ⟨⟨j + 1, .slice (some ⟨g2, 0, none⟩) (j + 1) cap2, ps ++ [⟨.slice x1 en x2, .slice x3 em x4, u⟩], by omega, by go_num, by show _ = _; rw [List.map_append]; exact HP2.out, e0, e1, e2, hM4, hmk4, hvb4, hB4⟩, by simp [intOf]; omega⟩
    · obtain rfl : j = ts.length := by omega
      have x0 := hb2.cell 0
      have x1 := hb2.cell 1
      have x2 := hb2.cell 2
      have s0 := hb1.cell 0
      have s1 := hb1.cell 1
      have s2 := hb1.cell 2
      have s3 := hb1.cell 3
      have f0 := hb1.frozen 0
      have f1 := hb1.frozen 1
      have f2 := hb1.frozen 2
      have f3 := hb1.frozen 3
      have hh4 := hmk.holds
      rw [HP.out, List.take_length] at hh4
      obtain ⟨ra, rc, rfl, _⟩ := hh4.shape
      have c0 := (((hb1.set 0 (.slice va bn vc)).set 1 (.int .i64 k)).set 2 (.int .i64 x)).set 3 (.slice ra ts.length rc)
      have hh5 : HoldsT ((((wr.setCell ⟨N + 1, 0, none⟩ (.slice va bn vc)).setCell ⟨N + 1, 1, none⟩ (.int .i64 k)).setCell ⟨N + 1, 2, none⟩ (.int .i64 x)).setCell ⟨N + 1, 3, none⟩ (.slice ra ts.length rc)) (fun b => N ≤ b) ts (.slice ra ts.length rc) := by
        have h := ((((hmk.set (R := N + 1) (by omega) 0 (.slice va bn vc)).set (R := N + 1) (by omega) 1 (.int .i64 k)).set (R := N + 1) (by omega) 2 (.int .i64 x)).set (R := N + 1) (by omega) 3 (.slice ra ts.length rc)).holds
        rw [HP.out, List.take_length] at h
        exact h.mono fun b _ hb => by omega
      have hh6 : Holds ((((wr.setCell ⟨N + 1, 0, none⟩ (.slice va bn vc)).setCell ⟨N + 1, 1, none⟩ (.int .i64 k)).setCell ⟨N + 1, 2, none⟩ (.int .i64 x)).setCell ⟨N + 1, 3, none⟩ (.slice ra ts.length rc)) (fun b => N ≤ b) t.binds (.slice va bn vc) := holds_set4 hvb (fun b _ h => ⟨by omega, by omega⟩) _ _ _ _
      have hB5 : Below N w ((((wr.setCell ⟨N + 1, 0, none⟩ (.slice va bn vc)).setCell ⟨N + 1, 1, none⟩ (.int .i64 k)).setCell ⟨N + 1, 2, none⟩ (.int .i64 x)).setCell ⟨N + 1, 3, none⟩ (.slice ra ts.length rc)) := bset (bset (bset (bset hbl (by omega) _) (by omega) _) (by omega) _) (by omega) _
      go_wp2
      generalize (((wr.setCell ⟨N + 1, 0, none⟩ (.slice va bn vc)).setCell ⟨N + 1, 1, none⟩ (.int .i64 k)).setCell ⟨N + 1, 2, none⟩ (.int .i64 x)).setCell ⟨N + 1, 3, none⟩ (.slice ra ts.length rc) = W5 at *
      have d0 : W5.cell? ⟨N + 1, 0, none⟩ = some (.slice va bn vc) := c0.cell 0
      have d1 : W5.cell? ⟨N + 1, 1, none⟩ = some (.int .i64 k) := c0.cell 1
      have d2 : W5.cell? ⟨N + 1, 2, none⟩ = some (.int .i64 x) := c0.cell 2
      have d3 : W5.cell? ⟨N + 1, 3, none⟩ = some (.slice ra ts.length rc) := c0.cell 3
      exact bodyPost_ret (v := tmv (.slice va bn vc) k x (.slice ra ts.length rc)) (by simp [results, Try.results33, go_sem, d0, d1, d2, d3]) rfl ⟨_, _, rfl, hh6, hh5, hB5⟩

end Go.Proofs.Ytckagmagjogmnaa

