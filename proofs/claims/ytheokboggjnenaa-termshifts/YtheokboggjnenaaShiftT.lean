/-
  The contracts of term.turn by what grows loose indexes, and of term.Shift.
-/
import Derived.Test.YtheokboggjnenaaCanH
import Derived.Test.YtheokboggjnenaaCopyT
namespace Go.Proofs.Ytheokboggjnenaa
open Go Go.RowKit

/-- An index within so many binders, where the loose ones from fr on grow by gy. -/
def shH (gy fr k i : Int) (b : Nat) : Int := if k = 0 ∧ (b : Int) ≤ i ∧ fr ≤ i - b then i + gy else i
mutual
def shT (gy fr : Int) : Nat → Tm → Tm
  | b, .mk l k i r => .mk l k (shH gy fr k i (b + l.length)) (shL gy fr (b + l.length) r)
def shL (gy fr : Int) : Nat → List Tm → List Tm
  | _, [] => []
  | b, t :: r => shT gy fr b t :: shL gy fr b r
end
theorem shL_map (gy fr : Int) (b : Nat) (l : List Tm) : shL gy fr b l = l.map (shT gy fr b) := by
  induction l with
  | nil => simp [shL]
  | cons t r ih => simp [shL, ih]
theorem shT_binds (gy fr : Int) (b : Nat) (t : Tm) : (shT gy fr b t).binds = t.binds := by cases t; rw [shT]; rfl
theorem shT_kind (gy fr : Int) (b : Nat) (t : Tm) : (shT gy fr b t).kind = t.kind := by cases t; rw [shT]; rfl
theorem shT_idx (gy fr : Int) (b : Nat) (t : Tm) : (shT gy fr b t).idx = shH gy fr t.kind t.idx (b + t.binds.length) := by cases t; rw [shT]; rfl
theorem shT_args (gy fr : Int) (b : Nat) (t : Tm) : (shT gy fr b t).args = t.args.map (shT gy fr (b + t.binds.length)) := by cases t; rw [shT]; exact shL_map _ _ _ _

/-- A head's index fits an int, and does so where it grows. -/
def grows (gy fr : Int) (p : Hd) : Prop := fits p.idx ∧ ∀ i, p.out = some i → fr ≤ i → fits (p.idx + gy)
theorem grows_arg {gy fr : Int} {t u : Tm} {d b : Nat} (h : ∀ p ∈ t.heads d b, grows gy fr p) (hu : u ∈ t.args) : ∀ p ∈ u.heads (d + 1) (b + t.binds.length), grows gy fr p := by
  intro p hp
  refine h p ?_
  rw [t.heads_eq]
  refine List.mem_cons_of_mem _ ?_
  generalize t.args = l at *
  induction l with
  | nil => cases hu
  | cons v r ih =>
    show p ∈ v.heads _ _ ++ headsT _ _ r
    rcases List.mem_cons.1 hu with rfl | hu
    · exact List.mem_append.2 (.inl hp)
    · exact List.mem_append.2 (.inr (ih hu))

set_option maxRecDepth 100000 in
set_option maxHeartbeats 1000000 in
theorem shift1_calls (gy fr k i : Int) (b : Nat) (P1 P2 : Nat) (w : World) (hfi : fits i) (hfg : k = 0 → (b : Int) ≤ i → fr ≤ i - b → fits (i + gy)) (h1 : w.cell? ⟨P1, 0, none⟩ = some (.int .i64 fr)) (h2 : w.cell? ⟨P2, 0, none⟩ = some (.int .i64 gy)) :
    Calls Try.prog 85 #[hv k i, .int .i64 (b : Int), .pointer (some ⟨P1, 0, none⟩), .pointer (some ⟨P2, 0, none⟩)] w fun e w' => e = .returned (hv k (shH gy fr k i b)) ∧ Below w.heap.size w w' := by
  obtain ⟨N, hN⟩ : ∃ N, w.heap.size = N := ⟨_, rfl⟩
  rw [hN]
  obtain ⟨W0, hW0⟩ : ∃ W0, (w.alloc (.cells #[.int .i64 k, .int .i64 i] 31)).alloc (.cells #[.int .i64 0, .int .i64 0] 31) = W0 := ⟨_, rfl⟩
  have b0 : Blk W0 N 31 #[.int .i64 k, .int .i64 i] := by rw [← hW0]; exact (Blk.new' w N 31 _ hN).alloc _
  have b1 : Blk W0 (N + 1) 31 #[.int .i64 0, .int .i64 0] := by rw [← hW0]; exact Blk.new' _ (N + 1) 31 _ (by simp [hN])
  have bl0 : Below N w W0 := by rw [← hW0]; exact ((Below.refl N w).alloc (by omega) _).alloc (by simp; omega) _
  have hcW : Cur w W0 := by show Below _ _ _; rw [hN]; exact bl0
  have hcall := outs_calls ⟨1, b, k, i⟩ hfi W0
  have hou : (⟨1, b, k, i⟩ : Hd).out = if k = 0 ∧ (b : Int) ≤ i then some (i - b) else none := rfl
  have p1 := hcW.cell h1
  have p2 := hcW.cell h2
  have HW : Hid _ := hW0
  have c0 := b0.cell 0
  have c1 := b0.cell 1
  clear hW0 h1 h2 hcW
  dsimp only at hcall
  go_enter Try.func85, Try.ntmps85
  go_upto_region 1 with fail
  rw [HW.out]
  clear HW
  go_wp2_with fail
  refine hcall.mono ?_
  clear hcall
  rintro e w1 ⟨rfl, hb1⟩
  have r1 := (cat hb1 (lt_of_cell p1)).trans p1
  have r2 := (cat hb1 (lt_of_cell p2)).trans p2
  have b0' := b0.below hb1 b0.lt
  have b1' := b1.below hb1 b1.lt
  have hbl : Below N w w1 := bl0.trans (hb1.mono (by have := b0.lt; omega))
  have s0 := b0'.cell 0
  have s1 := b0'.cell 1
  have fz1 := b0'.frozen 1
  have t0 := b1'.cell 0
  have t1 := b1'.cell 1
  have ft0 := b1'.frozen 0
  have ft1 := b1'.frozen 1
  clear c0 c1 p1 p2 b0 b1 hb1 bl0
  obtain ⟨hf1, hf2⟩ := hfi
  by_cases hl : k = 0 ∧ (b : Int) ≤ i
  · obtain ⟨rfl, hbi⟩ := hl
    rw [if_pos ⟨rfl, hbi⟩] at hou
    have HOU : Hid _ := hou
    rw [HOU.out]
    simp only [Option.getD_some, Option.isSome_some]
    by_cases e1 : fr ≤ i - (b : Int)
    · obtain ⟨hg1, hg2⟩ := hfg rfl hbi e1
      have z1 : decide (i - (b : Int) ≥ fr) = true := decide_eq_true e1
      have z2 : decide (fr ≤ i - (b : Int)) = true := decide_eq_true e1
      have HR : Hid (shH gy fr 0 i b = i + gy) := by show _ = _; unfold shH; rw [if_pos ⟨rfl, hbi, e1⟩]
      have m0 := b0'.set 1 (.int .i64 (i + gy))
      have m1 := b1'.other (B' := N) (by omega) 1 (.int .i64 (i + gy))
      have hbl2 : Below N w (w1.setCell ⟨N, 1, none⟩ (.int .i64 (i + gy))) := bset hbl (Nat.le_refl _) _
      have g0 := m0.cell 0
      have g1 := m0.cell 1
      have g2 := m1.cell 0
      have g3 := m1.cell 1
      have g4 := m1.frozen 0
      have g5 := m1.frozen 1
      have m2 := (m1.set 0 (.int .i64 0)).set 1 (.int .i64 (i + gy))
      have hbl3 : Below N w (((w1.setCell ⟨N, 1, none⟩ (.int .i64 (i + gy))).setCell ⟨N + 1, 0, none⟩ (.int .i64 0)).setCell ⟨N + 1, 1, none⟩ (.int .i64 (i + gy))) := bset (bset hbl2 (by omega) _) (by omega) _
      clear b0' b1' hou HOU hfg m0 m1 hbl hbl2
      go_wp2
      generalize ((w1.setCell ⟨N, 1, none⟩ (.int .i64 (i + gy))).setCell ⟨N + 1, 0, none⟩ (.int .i64 0)).setCell ⟨N + 1, 1, none⟩ (.int .i64 (i + gy)) = W5 at *
      have n0 : W5.cell? ⟨N + 1, 0, none⟩ = some (.int .i64 0) := m2.cell 0
      have n1 : W5.cell? ⟨N + 1, 1, none⟩ = some (.int .i64 (i + gy)) := m2.cell 1
      exact bodyPost_ret (v := hv 0 (i + gy)) (by simp [results, Try.results85, go_sem, n0, n1]) rfl ⟨by rw [HR.out], hbl3⟩
    · have z1 : decide (i - (b : Int) ≥ fr) = false := decide_eq_false e1
      have z2 : decide (fr ≤ i - (b : Int)) = false := decide_eq_false e1
      have HR : Hid (shH gy fr 0 i b = i) := by show _ = _; unfold shH; rw [if_neg (fun h => e1 h.2.2)]
      have m2 := (b1'.set 0 (.int .i64 0)).set 1 (.int .i64 i)
      have hbl3 : Below N w ((w1.setCell ⟨N + 1, 0, none⟩ (.int .i64 0)).setCell ⟨N + 1, 1, none⟩ (.int .i64 i)) := bset (bset hbl (by omega) _) (by omega) _
      clear b0' b1' hou HOU hfg hbl
      go_wp2
      generalize (w1.setCell ⟨N + 1, 0, none⟩ (.int .i64 0)).setCell ⟨N + 1, 1, none⟩ (.int .i64 i) = W5 at *
      have n0 : W5.cell? ⟨N + 1, 0, none⟩ = some (.int .i64 0) := m2.cell 0
      have n1 : W5.cell? ⟨N + 1, 1, none⟩ = some (.int .i64 i) := m2.cell 1
      exact bodyPost_ret (v := hv 0 i) (by simp [results, Try.results85, go_sem, n0, n1]) rfl ⟨by rw [HR.out], hbl3⟩
  · rw [if_neg hl] at hou
    have HR : Hid (shH gy fr k i b = i) := by show _ = _; unfold shH; rw [if_neg (fun h => hl ⟨h.1, h.2.1⟩)]
    have HOU : Hid _ := hou
    rw [HOU.out]
    simp only [Option.getD_none, Option.isSome_none]
    have m2 := (b1'.set 0 (.int .i64 k)).set 1 (.int .i64 i)
    have hbl3 : Below N w ((w1.setCell ⟨N + 1, 0, none⟩ (.int .i64 k)).setCell ⟨N + 1, 1, none⟩ (.int .i64 i)) := bset (bset hbl (by omega) _) (by omega) _
    clear b0' b1' hou HOU hfg hbl
    go_wp2
    generalize (w1.setCell ⟨N + 1, 0, none⟩ (.int .i64 k)).setCell ⟨N + 1, 1, none⟩ (.int .i64 i) = W5 at *
    have n0 : W5.cell? ⟨N + 1, 0, none⟩ = some (.int .i64 k) := m2.cell 0
    have n1 : W5.cell? ⟨N + 1, 1, none⟩ = some (.int .i64 i) := m2.cell 1
    exact bodyPost_ret (v := hv k i) (by simp [results, Try.results85, go_sem, n0, n1]) rfl ⟨by rw [HR.out], hbl3⟩

/-- turn's own word of one term, by what grows loose indexes -/
def ShAt (gy fr : Int) (Q1 Q2 : Nat) (t : Tm) : Prop := ∀ (d b : Nat) (ok : Nat → Prop) (sb sr : Value) (w : World), w.cell? ⟨Q1, 0, none⟩ = some (.int .i64 fr) → w.cell? ⟨Q2, 0, none⟩ = some (.int .i64 gy) → (∀ p ∈ t.heads d b, grows gy fr p) → Holds w ok t.binds sb → HoldsT w ok t.args sr → b + t.total ≤ 10000000 → t.total ≤ 1000000 →
    Calls Try.prog 84 #[tmv sb t.kind t.idx sr, .int .i64 b, .func (.func 85) #[] #[.pointer (some ⟨Q1, 0, none⟩), .pointer (some ⟨Q2, 0, none⟩)]] w fun e w' => ∃ vb vr, e = .returned (tmv vb t.kind (shH gy fr t.kind t.idx (b + t.binds.length)) vr) ∧ Holds w' (fun b => w.heap.size ≤ b) t.binds vb ∧ HoldsT w' (fun b => w.heap.size ≤ b) (t.args.map (shT gy fr (b + t.binds.length))) vr ∧ Below w.heap.size w w'

set_option maxRecDepth 100000 in
set_option maxHeartbeats 1000000 in
theorem turnS1_calls (gy fr : Int) (Q1 Q2 d : Nat) (u : Tm) (hT : ShAt gy fr Q1 Q2 u) (P1 P2 b : Nat) (hgr : ∀ p ∈ u.heads d b, grows gy fr p) (hbt : b + u.total ≤ 10000000) (ht2 : u.total ≤ 1000000) (W : World) (h1 : W.cell? ⟨P1, 0, none⟩ = some (.int .i64 b)) (h2 : W.cell? ⟨P2, 0, none⟩ = some (.func (.func 85) #[] #[.pointer (some ⟨Q1, 0, none⟩), .pointer (some ⟨Q2, 0, none⟩)])) (h3 : W.cell? ⟨Q1, 0, none⟩ = some (.int .i64 fr)) (h4 : W.cell? ⟨Q2, 0, none⟩ = some (.int .i64 gy)) :
    MapsAt 113 #[.pointer (some ⟨P1, 0, none⟩), .pointer (some ⟨P2, 0, none⟩)] W (shT gy fr b) u := by
  intro ok sb sr w hc hb hr
  rw [shT_kind, shT_idx, shT_binds, shT_args]
  obtain ⟨ki, hki⟩ : ∃ x, shH gy fr u.kind u.idx (b + u.binds.length) = x := ⟨_, rfl⟩
  obtain ⟨ua, hua⟩ : ∃ x, u.args.map (shT gy fr (b + u.binds.length)) = x := ⟨_, rfl⟩
  have hual : ua.length = u.args.length := by rw [← hua, List.length_map]
  rw [hki, hua]
  obtain ⟨x1, x2, rfl, _⟩ := hb.shape
  obtain ⟨x3, x4, rfl, _⟩ := hr.shape
  obtain ⟨bn, hbn⟩ : ∃ bn, u.binds.length = bn := ⟨_, rfl⟩
  obtain ⟨an, han⟩ : ∃ an, u.args.length = an := ⟨_, rfl⟩
  rw [hbn] at hb ⊢
  rw [han] at hr ⊢
  obtain ⟨N, hN⟩ : ∃ N, w.heap.size = N := ⟨_, rfl⟩
  rw [hN]
  obtain ⟨W0, hW0⟩ : ∃ W0, (w.alloc (.cells #[.slice x1 bn x2, .int .i64 u.kind, .int .i64 u.idx, .slice x3 an x4] 34)).alloc (.cells #[.slice none 0 0, .int .i64 0, .int .i64 0, .slice none 0 0] 34) = W0 := ⟨_, rfl⟩
  have b0 : Blk W0 N 34 #[.slice x1 bn x2, .int .i64 u.kind, .int .i64 u.idx, .slice x3 an x4] := by rw [← hW0]; exact (Blk.new' w N 34 _ hN).alloc _
  have b1 : Blk W0 (N + 1) 34 #[.slice none 0 0, .int .i64 0, .int .i64 0, .slice none 0 0] := by rw [← hW0]; exact Blk.new' _ (N + 1) 34 _ (by simp [hN])
  have bl0 : Below N w W0 := by rw [← hW0]; exact ((Below.refl N w).alloc (by omega) _).alloc (by simp; omega) _
  have hcW : Cur W W0 := hc.then (by rw [hN]; exact bl0)
  have c0 := b0.cell 0
  have c1 := b0.cell 1
  have c2 := b0.cell 2
  have c3 := b0.cell 3
  have p1 := hcW.cell h1
  have p2 := hcW.cell h2
  have hcall := hT d b ok _ _ W0 (hcW.cell h3) (hcW.cell h4) hgr (hb.bel (hN ▸ bl0)) (hr.bel (hN ▸ bl0)) hbt ht2
  rw [hbn] at hki hua hcall
  rw [hki, hua] at hcall
  rw [han] at hual
  have hz : N + 1 < W0.heap.size := b1.lt
  have HW : Hid _ := hW0
  clear hW0 hb hr hc hcW h1 h2 h3 h4 hT hbn han hki hua hgr
  go_enter Try.func113, Try.ntmps113
  go_upto_region 1 with fail
  rw [HW.out]
  clear HW
  go_wp2_with fail
  refine hcall.mono ?_
  rintro e w1 ⟨vb, vr, rfl, q1, q2, hb1⟩
  obtain ⟨y1, y2, rfl, _⟩ := q1.shape
  obtain ⟨y3, y4, rfl, _⟩ := q2.shape
  generalize u.binds.length = m1 at *
  have HUA : Hid _ := hual
  clear hual
  generalize ua.length = m2 at *
  have m9 := b1.below hb1 b1.lt
  have e0 := m9.cell 0
  have e1 := m9.cell 1
  have e2 := m9.cell 2
  have e3 := m9.cell 3
  have f0 := m9.frozen 0
  have f1 := m9.frozen 1
  have f2 := m9.frozen 2
  have f3 := m9.frozen 3
  have b9 := (((m9.set 0 (.slice y1 m1 y2)).set 1 (.int .i64 u.kind)).set 2 (.int .i64 ki)).set 3 (.slice y3 m2 y4)
  have r1 := holds_set4 (g := N + 1) (ok' := fun b => N ≤ b) q1 (fun b _ h => ⟨by omega, by omega⟩) (.slice y1 m1 y2) (.int .i64 u.kind) (.int .i64 ki) (.slice y3 m2 y4)
  have r2 := holdsT_z (g := N + 1) (ok' := fun b => N ≤ b) q2 (fun b _ h => ⟨by omega, by omega⟩) (.slice y1 m1 y2) (.int .i64 u.kind) (.int .i64 ki) (.slice y3 m2 y4)
  have r3 : Below N w ((((w1.setCell ⟨N + 1, 0, none⟩ (.slice y1 m1 y2)).setCell ⟨N + 1, 1, none⟩ (.int .i64 u.kind)).setCell ⟨N + 1, 2, none⟩ (.int .i64 ki)).setCell ⟨N + 1, 3, none⟩ (.slice y3 m2 y4)) := bset (bset (bset (bset (bl0.trans (hb1.mono (by omega))) (by omega) _) (by omega) _) (by omega) _) (by omega) _
  clear q1 q2
  go_wp2
  generalize (((w1.setCell ⟨N + 1, 0, none⟩ (.slice y1 m1 y2)).setCell ⟨N + 1, 1, none⟩ (.int .i64 u.kind)).setCell ⟨N + 1, 2, none⟩ (.int .i64 ki)).setCell ⟨N + 1, 3, none⟩ (.slice y3 m2 y4) = W5 at *
  have g0 : W5.cell? ⟨N + 1, 0, none⟩ = some (.slice y1 m1 y2) := b9.cell 0
  have g1 : W5.cell? ⟨N + 1, 1, none⟩ = some (.int .i64 u.kind) := b9.cell 1
  have g2 : W5.cell? ⟨N + 1, 2, none⟩ = some (.int .i64 ki) := b9.cell 2
  have g3 : W5.cell? ⟨N + 1, 3, none⟩ = some (.slice y3 m2 y4) := b9.cell 3
  exact bodyPost_ret (v := tmv (.slice y1 m1 y2) u.kind ki (.slice y3 m2 y4)) (by simp [results, Try.results113, go_sem, g0, g1, g2, g3]) rfl ⟨_, _, rfl, r1, r2, r3⟩

set_option maxRecDepth 100000 in
set_option maxHeartbeats 800000 in
theorem turnS_calls (gy fr : Int) (Q1 Q2 : Nat) (t : Tm) : ShAt gy fr Q1 Q2 t := by
  induction t using Tm.ind with
  | h t ih =>
  intro d b ok sb sr w hq1 hq2 hgr hb hr hbt ht2
  have hqb1 := lt_of_cell hq1
  have hqb2 := lt_of_cell hq2
  have hgh := hgr ⟨d, b + t.binds.length, t.kind, t.idx⟩ (by rw [t.heads_eq]; simp)
  have hga := fun u (hu : u ∈ t.args) => grows_arg hgr hu
  have htot := t.total_eq
  have hlb := sizeL_length t.binds
  have hla := totalT_length t.args
  obtain ⟨x1, x2, rfl, _⟩ := hb.shape
  obtain ⟨x3, x4, rfl, _⟩ := hr.shape
  obtain ⟨bn, hbn⟩ : ∃ bn, t.binds.length = bn := ⟨_, rfl⟩
  obtain ⟨an, han⟩ : ∃ an, t.args.length = an := ⟨_, rfl⟩
  rw [hbn] at hb hlb hgh hga ⊢
  obtain ⟨ki, hki⟩ : ∃ x, shH gy fr t.kind t.idx (b + bn) = x := ⟨_, rfl⟩
  obtain ⟨ua, hua⟩ : ∃ x, t.args.map (shT gy fr (b + bn)) = x := ⟨_, rfl⟩
  rw [hki, hua]
  rw [han] at hr hla ⊢
  obtain ⟨N, hN⟩ : ∃ N, w.heap.size = N := ⟨_, rfl⟩
  rw [hN]
  obtain ⟨W0, hW0⟩ : ∃ W0, (((w.alloc (.cells #[.slice x1 bn x2, .int .i64 t.kind, .int .i64 t.idx, .slice x3 an x4] 34)).alloc (.cells #[.int .i64 ((b : Int) + (bn : Int))] 3)).alloc (.cells #[.func (.func 85) #[] #[.pointer (some ⟨Q1, 0, none⟩), .pointer (some ⟨Q2, 0, none⟩)]] 132)).alloc (.cells #[.slice none 0 0, .int .i64 0, .int .i64 0, .slice none 0 0] 34) = W0 := ⟨_, rfl⟩
  have b0 : Blk W0 N 34 #[.slice x1 bn x2, .int .i64 t.kind, .int .i64 t.idx, .slice x3 an x4] := by rw [← hW0]; exact (((Blk.new' w N 34 _ hN).alloc _).alloc _).alloc _
  have b1 : Blk W0 (N + 1) 3 #[.int .i64 ((b : Int) + (bn : Int))] := by rw [← hW0]; exact ((Blk.new' _ (N + 1) 3 _ (by simp [hN])).alloc _).alloc _
  have b2 : Blk W0 (N + 2) 132 #[.func (.func 85) #[] #[.pointer (some ⟨Q1, 0, none⟩), .pointer (some ⟨Q2, 0, none⟩)]] := by rw [← hW0]; exact (Blk.new' _ (N + 2) 132 _ (by simp [hN])).alloc _
  have b3 : Blk W0 (N + 3) 34 #[.slice none 0 0, .int .i64 0, .int .i64 0, .slice none 0 0] := by rw [← hW0]; exact Blk.new' _ (N + 3) 34 _ (by simp [hN])
  have hz0 : W0.heap.size = N + 4 := by rw [← hW0]; simp [hN]
  have bl0 : Below N w W0 := by rw [← hW0]; exact ((((Below.refl N w).alloc (by omega) _).alloc (by simp; omega) _).alloc (by simp; omega) _).alloc (by simp; omega) _
  have hb0 := hb.bel (hN ▸ bl0)
  have hcq : Cur w W0 := by show Below _ _ _; rw [hN]; exact bl0
  have u1 := hcq.cell hq1
  have u2 := hcq.cell hq2
  have hr0 := hr.bel (hN ▸ bl0)
  have HW : Hid _ := hW0
  have c0 := b0.cell 0
  have c1 := b0.cell 1
  have c2 := b0.cell 2
  have c3 := b0.cell 3
  have d1 := b1.cell 0
  have d2 := b2.cell 0
  have hsb : sizeL t.binds ≤ 1000000 := by omega
  have hla2 : t.args.length ≤ 1000000 := by omega
  have hmf : ∀ (fn : Fn) (first cap : Array Value) (w : World), (Instr.makeFunc fn first cap).run Try.prog w = .ok (.func fn first cap) w := fun _ _ _ _ => rfl
  have k111 : ∀ cur, Cur W0 cur → Calls Try.prog 111 #[.slice x1 bn x2, .func (.func 74) #[] #[]] cur fun e w' => ∃ va vc, e = .returned (.slice va bn vc) ∧ Holds w' (fun b => W0.heap.size ≤ b) t.binds (.slice va bn vc) ∧ Cur W0 w' := fun cur hc =>
    (eachTy_calls t.binds ok _ cur (hc.holds hb0) hsb).mono fun e w' ⟨v, h1, h2, h3⟩ => by
      obtain ⟨va, vc, rfl, _⟩ := h2.shape
      rw [hbn] at h1 h2
      exact ⟨va, vc, h1, h2.mono (fun b _ h => Nat.le_trans (Below.size hc) h), hc.then h3⟩
  have k90 : ∀ cur, Cur W0 cur → Calls Try.prog 85 #[hv t.kind t.idx, .int .i64 ((b : Int) + (bn : Int)), .pointer (some ⟨Q1, 0, none⟩), .pointer (some ⟨Q2, 0, none⟩)] cur fun e w' => e = .returned (hv t.kind ki) ∧ Below cur.heap.size cur w' ∧ Cur W0 w' := fun cur hc =>
    (show Calls Try.prog 85 #[hv t.kind t.idx, .int .i64 ((b : Int) + (bn : Int)), .pointer (some ⟨Q1, 0, none⟩), .pointer (some ⟨Q2, 0, none⟩)] cur fun e w' => e = .returned (hv t.kind ki) ∧ Below cur.heap.size cur w' from by
      have h9 := shift1_calls gy fr t.kind t.idx (b + bn) Q1 Q2 cur hgh.1 (fun g1 g2 g3 => hgh.2 _ (by unfold Hd.out; rw [if_pos ⟨g1, g2⟩]) g3) (hc.cell u1) (hc.cell u2)
      rw [hki, show ((b + bn : Nat) : Int) = (b : Int) + (bn : Int) by omega] at h9
      exact h9).mono fun e w' ⟨h1, h3⟩ => ⟨h1, h3, hc.then h3⟩
  have k112 : ∀ cur, Cur W0 cur → Calls Try.prog 112 #[.slice x3 an x4, .func (.func 113) #[] #[.pointer (some ⟨N + 1, 0, none⟩), .pointer (some ⟨N + 2, 0, none⟩)]] cur fun e w' => ∃ va vn vc, e = .returned (.slice va vn vc) ∧ HoldsT w' (fun b => W0.heap.size ≤ b) ua (.slice va vn vc) ∧ Below cur.heap.size cur w' ∧ Cur W0 w' := fun cur hc =>
    (eachTm_calls t.args (shT gy fr (b + bn)) ok _ _ _ cur (hr0.bel hc) hla2 (fun u hu => turnS1_calls gy fr Q1 Q2 (d + 1) u (ih u hu) (N + 1) (N + 2) (b + bn) (hga u hu) (by have := total_mem hu; omega) (by have := total_mem hu; omega) cur (hc.cell d1) (hc.cell d2) (hc.cell u1) (hc.cell u2))).mono fun e w' ⟨v, h1, h2, h3⟩ => by
      rw [hua] at h2
      obtain ⟨va, vc, rfl, _⟩ := h2.shape
      exact ⟨va, _, vc, h1, h2.mono (fun b _ h => Nat.le_trans (Below.size hc) h), h3, hc.then h3⟩
  have hK : ∀ v, Cur W0 v → v.cell? ⟨N, 0, none⟩ = some (.slice x1 bn x2) ∧ v.cell? ⟨N, 1, none⟩ = some (.int .i64 t.kind) ∧ v.cell? ⟨N, 2, none⟩ = some (.int .i64 t.idx) ∧ v.cell? ⟨N, 3, none⟩ = some (.slice x3 an x4) ∧ v.cell? ⟨N + 1, 0, none⟩ = some (.int .i64 ((b : Int) + (bn : Int))) ∧ v.cell? ⟨N + 2, 0, none⟩ = some (.func (.func 85) #[] #[.pointer (some ⟨Q1, 0, none⟩), .pointer (some ⟨Q2, 0, none⟩)]) := fun v hv => ⟨hv.cell c0, hv.cell c1, hv.cell c2, hv.cell c3, hv.cell d1, hv.cell d2⟩
  have hne0 : N ≠ N + 3 := by omega
  have hne1 : N + 1 ≠ N + 3 := by omega
  have hne2 : N + 2 ≠ N + 3 := by omega
  have hbn2 : bn ≤ 1000000 := by omega
  have hb2 : b ≤ 10000000 := by omega
  clear hW0 hb hr hb0 hr0 ih hbt ht2 htot hlb hla hsb hla2 hq1 hq2 hgr hgh hga hki hua hcq u1 u2
  go_enter Try.func84, Try.ntmps84
  go_upto_region 2 with fail
  rw [HW.out]
  clear HW
  have hcur := Cur.refl W0
  go_region_held3 (fun v => v.cell? ⟨N, 0, none⟩ = some (.slice x1 bn x2) ∧ v.cell? ⟨N, 1, none⟩ = some (.int .i64 t.kind) ∧ v.cell? ⟨N, 2, none⟩ = some (.int .i64 t.idx) ∧ v.cell? ⟨N, 3, none⟩ = some (.slice x3 an x4) ∧ v.cell? ⟨N + 1, 0, none⟩ = some (.int .i64 ((b : Int) + (bn : Int))) ∧ v.cell? ⟨N + 2, 0, none⟩ = some (.func (.func 85) #[] #[.pointer (some ⟨Q1, 0, none⟩), .pointer (some ⟨Q2, 0, none⟩)]))
    (first | with_reducible exact hK _ (by first | with_reducible assumption | (with_reducible refine Cur.drew ?_; assumption)) | with_reducible exact ⟨Cur.other4 hc3 c0 hne0 _ _ _ _, Cur.other4 hc3 c1 hne0 _ _ _ _, Cur.other4 hc3 c2 hne0 _ _ _ _, Cur.other4 hc3 c3 hne0 _ _ _ _, Cur.other4 hc3 d1 hne1 _ _ _ _, Cur.other4 hc3 d2 hne2 _ _ _ _⟩)
    (first
      | (go_at_call 111; refine (k111 _ (by first | with_reducible assumption | (with_reducible refine Cur.drew ?_; assumption))).mono ?_; rintro e w1 ⟨va, vc, rfl, hv1, hc1⟩)
      | (go_at_call 85; refine (k90 _ (by first | with_reducible assumption | (with_reducible refine Cur.drew ?_; assumption))).mono ?_; rintro e w2 ⟨rfl, hb2', hc2⟩; have hv2 := hv1.bel hb2')
      | (go_at_call 112; refine (k112 _ (by first | with_reducible assumption | (with_reducible refine Cur.drew ?_; assumption))).mono ?_; rintro e w3 ⟨vd, vn, ve, rfl, q2, hb3, hc3⟩; have q1 := hv2.bel hb3; have m9 := b3.below hc3 b3.lt; have e0 := m9.cell 0; have e1 := m9.cell 1; have e2 := m9.cell 2; have e3 := m9.cell 3; have f0 := m9.frozen 0; have f1 := m9.frozen 1; have f2 := m9.frozen 2; have f3 := m9.frozen 3))
  all_goals
    have b9 : Blk ((((w3.setCell ⟨N + 1 + 1 + 1, 0, none⟩ (.slice va bn vc)).setCell ⟨N + 1 + 1 + 1, 1, none⟩ (.int .i64 t.kind)).setCell ⟨N + 1 + 1 + 1, 2, none⟩ (.int .i64 ki)).setCell ⟨N + 1 + 1 + 1, 3, none⟩ (.slice vd vn ve)) (N + 1 + 1 + 1) 34 #[.slice va bn vc, .int .i64 t.kind, .int .i64 ki, .slice vd vn ve] := (((m9.set 0 (.slice va bn vc)).set 1 (.int .i64 t.kind)).set 2 (.int .i64 ki)).set 3 (.slice vd vn ve)
    have r1 : Holds ((((w3.setCell ⟨N + 1 + 1 + 1, 0, none⟩ (.slice va bn vc)).setCell ⟨N + 1 + 1 + 1, 1, none⟩ (.int .i64 t.kind)).setCell ⟨N + 1 + 1 + 1, 2, none⟩ (.int .i64 ki)).setCell ⟨N + 1 + 1 + 1, 3, none⟩ (.slice vd vn ve)) (fun b => N ≤ b) t.binds (.slice va bn vc) := holds_set4 q1 (fun b _ h => ⟨by omega, by omega⟩) _ _ _ _
    have r2 : HoldsT ((((w3.setCell ⟨N + 1 + 1 + 1, 0, none⟩ (.slice va bn vc)).setCell ⟨N + 1 + 1 + 1, 1, none⟩ (.int .i64 t.kind)).setCell ⟨N + 1 + 1 + 1, 2, none⟩ (.int .i64 ki)).setCell ⟨N + 1 + 1 + 1, 3, none⟩ (.slice vd vn ve)) (fun b => N ≤ b) ua (.slice vd vn ve) := holdsT_z q2 (fun b _ h => ⟨by omega, by omega⟩) _ _ _ _
    have r3 : Below N w ((((w3.setCell ⟨N + 1 + 1 + 1, 0, none⟩ (.slice va bn vc)).setCell ⟨N + 1 + 1 + 1, 1, none⟩ (.int .i64 t.kind)).setCell ⟨N + 1 + 1 + 1, 2, none⟩ (.int .i64 ki)).setCell ⟨N + 1 + 1 + 1, 3, none⟩ (.slice vd vn ve)) := bset (bset (bset (bset (bl0.trans (Below.mono hc3 (by omega))) (by omega) _) (by omega) _) (by omega) _) (by omega) _
    clear q1 q2 m9 e0 e1 e2 e3 f0 f1 f2 f3 hv1 hv2
    generalize (((w3.setCell ⟨N + 1 + 1 + 1, 0, none⟩ (.slice va bn vc)).setCell ⟨N + 1 + 1 + 1, 1, none⟩ (.int .i64 t.kind)).setCell ⟨N + 1 + 1 + 1, 2, none⟩ (.int .i64 ki)).setCell ⟨N + 1 + 1 + 1, 3, none⟩ (.slice vd vn ve) = W5 at *
    go_wp2
    have g0 : W5.cell? ⟨N + 1 + 1 + 1, 0, none⟩ = some (.slice va bn vc) := b9.cell 0
    have g1 : W5.cell? ⟨N + 1 + 1 + 1, 1, none⟩ = some (.int .i64 t.kind) := b9.cell 1
    have g2 : W5.cell? ⟨N + 1 + 1 + 1, 2, none⟩ = some (.int .i64 ki) := b9.cell 2
    have g3 : W5.cell? ⟨N + 1 + 1 + 1, 3, none⟩ = some (.slice vd vn ve) := b9.cell 3
    exact bodyPost_ret (v := tmv (.slice va bn vc) t.kind ki (.slice vd vn ve)) (by simp [results, Try.results84, go_sem, g0, g1, g2, g3]) rfl ⟨_, _, rfl, r1, r2, r3⟩

/-- What Shift answers. -/
def shiftE (gy fr : Int) (t : Tm) : Int := if fr < 0 then 1 else errI gy fr (t.heads 1 0)

end Go.Proofs.Ytheokboggjnenaa
