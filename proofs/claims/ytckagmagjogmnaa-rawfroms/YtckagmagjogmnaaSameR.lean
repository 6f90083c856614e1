/-
  SameR: several texts in one file: OfR, SameR.
-/
import Derived.Test.YtckagmagjogmnaaToR
import Derived.Test.YtckagmagjogmnaaRightR
import Derived.Test.YtckagmagjogmnaaSame
import Derived.Lib.QuietBelow
namespace Go.Proofs.Ytckagmagjogmnaa
open Go Go.RowKit

/-- Of's own word of one raw term -/
def OfAt (t : Rw) : Prop := ∀ (ok : Nat → Prop) (sb sr : Value) (w : World), Holds w ok t.ty.args sb → HoldsR w ok t.kids sr → t.total ≤ 1000000 →
    Calls Try.prog 19 #[rwv t.kind sb t.ty.base t.idx sr] w fun e w' => ∃ vb vr, e = .returned (rwv t.kind vb t.ty.base t.idx vr) ∧ Holds w' (fun b => w.heap.size ≤ b) t.ty.args vb ∧ HoldsR w' (fun b => w.heap.size ≤ b) t.kids vr ∧ Below w.heap.size w w'

set_option maxRecDepth 100000 in
set_option maxHeartbeats 3200000 in
theorem OfR_calls (t : Rw) : OfAt t := by
  induction t using Rw.ind with
  | h t ih =>
  intro ok sb sr w hb hr hsz
  have htot := t.total_eq
  obtain ⟨ba, bc, hsb, _⟩ := hb.shape
  obtain ⟨bn, hbn⟩ : ∃ bn, t.ty.args.length = bn := ⟨_, rfl⟩
  rw [hbn] at hsb
  subst hsb
  obtain ⟨ts, hts⟩ : ∃ ts, t.kids = ts := ⟨_, rfl⟩
  rw [hts] at hr ih htot ⊢
  obtain ⟨a, cap, rfl, hcap, hat⟩ := hr.shape
  have HA : Hid _ := hat
  have hln := totalR_length ts
  obtain ⟨N, hN⟩ : ∃ N, w.heap.size = N := ⟨_, rfl⟩
  have HN : Hid (w.heap.size = N) := hN
  have hty := fun (cur : World) (h1 : Holds cur ok t.ty.args (.slice ba bn bc)) => Of_calls t.ty ok _ cur h1 (by omega)
  obtain ⟨tas, htas⟩ : ∃ l, t.ty.args = l := ⟨_, rfl⟩
  rw [htas] at hb hbn hty ⊢
  generalize hk : t.kind = k at *
  generalize hx : t.idx = x at *
  generalize htb : t.ty.base = tb at *
  rw [hN]
  clear hat
  obtain ⟨W0, hW0⟩ : ∃ W0, (w.alloc (.cells #[.int .i64 k, .slice ba bn bc, .int .i64 tb, .int .i64 x, .slice a ts.length cap] 35)).alloc (.cells #[.int .i64 0, .slice none 0 0, .int .i64 0, .int .i64 0, .slice none 0 0] 27) = W0 := ⟨_, rfl⟩
  have b0 : Blk W0 N 35 #[.int .i64 k, .slice ba bn bc, .int .i64 tb, .int .i64 x, .slice a ts.length cap] := by rw [← hW0]; exact (Blk.new' w N 35 _ hN).alloc _
  have b1 : Blk W0 (N + 1) 27 #[.int .i64 0, .slice none 0 0, .int .i64 0, .int .i64 0, .slice none 0 0] := by rw [← hW0]; exact Blk.new' _ (N + 1) 27 _ (by simp [hN])
  have hz0 : W0.heap.size = N + 2 := by rw [← hW0]; simp [hN]
  have bl0 : Below N w W0 := by rw [← hW0]; exact ((Below.refl N w).alloc (by omega) _).alloc (by simp; omega) _
  have hb0 : Holds W0 ok tas (.slice ba bn bc) := hb.bel (by rw [hN]; exact bl0)
  have HW : Hid _ := hW0
  clear hW0
  go_enter Try.func19, Try.ntmps19
  go_upto_region 1 with fail
  rw [HW.out]
  clear HW
  go_cut [3] (fun s3 wx => ∃ (R : Nat) (va : Option Addr) (vc : Nat), s3 = .pointer (some ⟨R, 0, none⟩) ∧ N + 2 ≤ R ∧ Blk wx R 27 #[.int .i64 k, .slice va bn vc, .int .i64 tb, .int .i64 x, .slice none 0 0] ∧ Holds wx (fun b => N + 2 ≤ b ∧ b ≠ R) tas (.slice va bn vc) ∧ Below (N + 2) W0 wx)
  case first =>
    have c0 := b0.cell 0
    have c1 := b0.cell 1
    have c2 := b0.cell 2
    have c3 := b0.cell 3
    have hK : ∀ v, Cur W0 v → v.cell? ⟨N, 0, none⟩ = some (.int .i64 k) ∧ v.cell? ⟨N, 1, none⟩ = some (.slice ba bn bc) ∧ v.cell? ⟨N, 2, none⟩ = some (.int .i64 tb) ∧ v.cell? ⟨N, 3, none⟩ = some (.int .i64 x) := fun v hv => ⟨hv.cell c0, hv.cell c1, hv.cell c2, hv.cell c3⟩
    have k33 : ∀ cur, Cur W0 cur → Calls Try.prog 29 #[tv (.slice ba bn bc) tb] cur fun e w' => ∃ va vc, e = .returned (tv (.slice va bn vc) tb) ∧ Holds w' (fun b => cur.heap.size ≤ b) tas (.slice va bn vc) ∧ Below cur.heap.size cur w' ∧ Cur W0 w' := fun cur hc =>
      (hty cur (hc.holds hb0)).mono fun e w' ⟨v, h1, h2, h3⟩ => by
        obtain ⟨va, vc, rfl, _⟩ := h2.shape
        rw [hbn] at h1 h2
        exact ⟨va, vc, h1, h2, h3, hc.then h3⟩
    have hZ : Blk (W0.alloc (.cells #[.int .i64 0, .slice none 0 0, .int .i64 0, .int .i64 0, .slice none 0 0] 27)).drew (N + 2) 27 #[.int .i64 0, .slice none 0 0, .int .i64 0, .int .i64 0, .slice none 0 0] := Blk.new' W0 (N + 2) 27 _ hz0
    have hzz : W0.heap.size ≤ N + 2 := by omega
    have hcur := Cur.refl W0
    go_region_held3 (fun v => v.cell? ⟨N, 0, none⟩ = some (.int .i64 k) ∧ v.cell? ⟨N, 1, none⟩ = some (.slice ba bn bc) ∧ v.cell? ⟨N, 2, none⟩ = some (.int .i64 tb) ∧ v.cell? ⟨N, 3, none⟩ = some (.int .i64 x))
      (first | with_reducible exact hK _ (by first | with_reducible assumption | (with_reducible refine Cur.drew ?_; assumption) | (with_reducible refine Cur.alloc ?_ _; assumption) | (with_reducible refine Cur.drew (Cur.alloc ?_ _); assumption) | (with_reducible refine Cur.alloc (Cur.drew ?_) _; assumption) | (with_reducible refine Cur.set (Cur.set (Cur.set (Cur.set (Cur.set ?_ hzz _ _) hzz _ _) hzz _ _) hzz _ _) hzz _ _; assumption)))
      (first | (go_at_call 29; refine (k33 _ (by first | with_reducible assumption | (with_reducible refine Cur.drew ?_; assumption) | (with_reducible refine Cur.alloc ?_ _; assumption) | (with_reducible refine Cur.drew (Cur.alloc ?_ _); assumption) | (with_reducible refine Cur.alloc (Cur.drew ?_) _; assumption) | (with_reducible refine Cur.set (Cur.set (Cur.set (Cur.set (Cur.set ?_ hzz _ _) hzz _ _) hzz _ _) hzz _ _) hzz _ _; assumption))).mono ?_; rintro e y33 ⟨va, vc, rfl, hv33, hb33, hc33⟩; try (with_reducible have bR := hZ.below hb33 hZ.lt; have r0 := bR.cell 0; have r1 := bR.cell 1; have r2 := bR.cell 2; have r3 := bR.cell 3; have r4 := bR.cell 4; have g0 := bR.frozen 0; have g1 := bR.frozen 1; have g2 := bR.frozen 2; have g3 := bR.frozen 3; have g4 := bR.frozen 4)))
    · have hs3 := Below.size hc33
      have hs4 : W0.drew.heap.size = N + 2 := hz0
      go_wp2_with fail
      go_meet
      refine ⟨y33.heap.size, va, vc, rfl, by omega, Blk.new y33 27 _, (hv33.mono fun b h1 h2 => ⟨by omega, by omega⟩).alloc _, ?_⟩
      have h9 := hc33.alloc (.cells #[.int .i64 k, .slice va bn vc, .int .i64 tb, .int .i64 x, .slice none 0 0] 27)
      unfold Cur at h9
      rwa [hz0] at h9
    · have hs4 : (W0.alloc (.cells #[.int .i64 0, .slice none 0 0, .int .i64 0, .int .i64 0, .slice none 0 0] 27)).drew.heap.size = N + 3 := by show (W0.alloc _).heap.size = _; simp [hz0]
      go_wp2_with fail
      go_meet
      refine ⟨N + 2, va, vc, rfl, Nat.le_refl _, ((((bR.set 0 (.int .i64 k)).set 1 (.slice va bn vc)).set 2 (.int .i64 tb)).set 3 (.int .i64 x)).set 4 (.slice none 0 0), holds_set5 hv33 (fun b h1 h2 => ⟨by omega, by omega, by omega⟩) _ _ _ _ _, ?_⟩
      have h9 := ((((hc33.set hzz 0 (.int .i64 k)).set hzz 1 (.slice va bn vc)).set hzz 2 (.int .i64 tb)).set hzz 3 (.int .i64 x)).set hzz 4 (.slice none 0 0)
      unfold Cur at h9
      rwa [hz0] at h9
  case rest =>
  obtain ⟨R, va, vc, rfl, hR, bR, hvb, hbc⟩ := hcut
  have b0c := b0.below hbc (by omega)
  have b1c := b1.below hbc (by omega)
  have blc : Below N w wc := bl0.trans (hbc.mono (by omega))
  obtain ⟨M, hM⟩ : ∃ M, wc.heap.size = M := ⟨_, rfl⟩
  have hRM : R < M := by rw [← hM]; exact bR.lt
  have hvb2 : Holds wc (fun b => N + 2 ≤ b ∧ b ≠ R ∧ b < M) tas (.slice va bn vc) := hvb.mono fun b h1 h2 => ⟨by omega, h2.2, by omega⟩
  have HIH : Hid (∀ u ∈ ts, OfAt u) := ih
  obtain ⟨i0, hi, hz0', hz1, hz2⟩ := info_parts info27
  have hTT : totalR ts ≤ 1000000 := by omega
  clear b0 b1 bl0 hbc hvb hb0 hz0 ih hb hr hty htot
  go_wp2_with fail
  go_loopw [4] (fun i wr => ∃ (j : Nat) (vk : Value) (ps : List Rc), j ≤ ts.length ∧ i = .int .i64 j ∧ Hid (ps.map (·.t) = ts.take j) ∧ Blk wr N 35 #[.int .i64 k, .slice ba bn bc, .int .i64 tb, .int .i64 x, .slice a ts.length cap] ∧ Blk wr (N + 1) 27 #[.int .i64 0, .slice none 0 0, .int .i64 0, .int .i64 0, .slice none 0 0] ∧ Blk wr R 27 #[.int .i64 k, .slice va bn vc, .int .i64 tb, .int .i64 x, vk] ∧ M ≤ wr.heap.size ∧ MkR wr M 27 vk ps ∧ Holds wr (fun b => N + 2 ≤ b ∧ b ≠ R ∧ b < M) tas (.slice va bn vc) ∧ Below N w wr)
    (fun i _ => ts.length - (intOf i).toNat)
  case atStart => exact ⟨0, _, [], Nat.zero_le _, rfl, rfl, b0c, b1c, bR, (by omega), MkR.nil _ _ _, hvb2, blc⟩
  case round =>
    clear b0c b1c bR hvb2 blc hM
    obtain ⟨j, vk, ps, hj, rfl, HP, hb0, hb1, hb2, hMw, hmk, hvb, hbl⟩ := hrel
    have r0 := hb0.cell 4
    have t0 := hb2.cell 4
    have hRw : R < wr.heap.size := hb2.lt
    have hpl : ps.length = j := by have := congrArg List.length HP.out; simp at this; omega
    by_cases hlt : j < ts.length
    · subst hpl
      obtain ⟨j, hjj⟩ : ∃ j, ps.length = j := ⟨_, rfl⟩
      rw [hjj] at hlt hj HP ⊢
      have HKK : Hid (ps.length = j) := hjj
      clear hjj
      obtain ⟨u, hu⟩ : ∃ u, ts[j]? = some u := ⟨_, List.getElem?_eq_getElem hlt⟩
      obtain ⟨g, o, s, r, rfl, _, hg, a0, a1, a2, a3, a4, hs, hsr⟩ := HA.out j u hu
      rw [HN.out] at hg
      have q0 := (cat hbl hg).trans a0
      have q1 := (cat hbl hg).trans a1
      have q2 := (cat hbl hg).trans a2
      have q3 := (cat hbl hg).trans a3
      have q4 := (cat hbl hg).trans a4
      have hm := List.mem_of_getElem? hu
      have hus := rtotal_mem hm
      have y1 : (0 : Int) ≤ (j : Int) := by omega
      have y2 : (j : Int) < (ts.length : Int) := by omega
      have HP2 : Hid (ps.map (·.t) ++ [u] = ts.take (j + 1)) := by show _ = _; rw [HP.out, List.take_add_one, hu]; rfl
      have hs2 : Holds wr ok u.ty.args s := hs.bel (by rw [HN.out]; exact hbl)
      have hr2 : HoldsR wr ok u.kids r := hsr.bel (by rw [HN.out]; exact hbl)
      have hnR : vk.ownBlock ≠ some R := fun e => by have := (hmk.lt R e).1; omega
      have hn0 : vk.ownBlock ≠ some N := fun e => by have := (hmk.lt N e).1; omega
      have hn1 : vk.ownBlock ≠ some (N + 1) := fun e => by have := (hmk.lt (N + 1) e).1; omega
      have HL : Hid (∀ b, vk.ownBlock = some b → b < wr.heap.size) := fun b hb => (hmk.lt b hb).2
      obtain ⟨s1, s2, rfl, _⟩ := hs.shape
      obtain ⟨s3, s4, rfl, _⟩ := hsr.shape
      generalize u.ty.args.length = ubn at *
      generalize u.kids.length = uan at *
      have hcall := HIH.out u hm ok _ _ wr.drew hs2.drew hr2.drew (by omega)
      clear a0 a1 a2 a3 a4 hu hs hsr HP hs2 hr2
      go_wp2_with fail
      go_region_law (first
          | (refine step_append_lies _ rfl _ _ 25 rfl M 27 i0 _ 5 72 Try.underlying25 hi hz0' hz1 hz2 rfl (by decide) _ j (rcells ps) rfl (by have := hmk2.row.alloc (.cells #[.int .i64 u.kind, .slice x1 en x2, .int .i64 u.ty.base, .int .i64 u.idx, .slice x3 em x4] 27); rwa [HKK.out] at this) ⟨w2.heap.size, 0, none⟩ 1 1 [.int .i64 u.kind, .slice x1 en x2, .int .i64 u.ty.base, .int .i64 u.idx, .slice x3 em x4] rfl rfl (cell_five_new _ _ _ _ _ _ _) (by simp [Value.oneCell']) (by omega) (by unfold maxLen; omega) (by omega) (by simp; omega) _ rfl ?_; intro g2 cap2 w3 hown3 hgrow3 hat3 hlt3; have hap := appended hgrow3 hb2 hbb hnR; have p3 := hap.cell 4; have pf := fun j => hap.frozen j)
          | (go_simp; go_at_call 19; refine hcall.mono ?_; rintro e w2 ⟨vb2, vr2, rfl, hvb2, hvr2, hbb⟩; obtain ⟨x1, x2, rfl, _⟩ := hvb2.shape; obtain ⟨x3, x4, rfl, _⟩ := hvr2.shape; generalize u.ty.args.length = en at *; generalize u.kids.length = em at *; have z3 := (hbb.cell (p := ⟨R, 4, none⟩) hRw).trans t0; have hmk2 := hmk.drew.bel hbb; have hwz : wr.heap.size ≤ w2.heap.size := hbb.size; have z3a := cell_alloc_old hbb hRw t0))
      all_goals
        have hB2 : Below N w w2 := hbl.drew.trans (hbb.mono (by show N ≤ wr.heap.size; omega))
        have hB3 : Below N w w3 := (hB2.alloc (by omega) _).grown hgrow3 (by simp; omega) (fun j hj => by have := (hmk2.lt j hj).1; omega)
        have hmk3 := (hmk2.alloc (.cells #[.int .i64 u.kind, .slice x1 en x2, .int .i64 u.ty.base, .int .i64 u.idx, .slice x3 em x4] 27)).snoc (cap := cap2) (x := ⟨.slice x1 en x2, .slice x3 em x4, u⟩) HKK.out (hvb2.alloc _) (hvr2.alloc _) hMw HL.out hgrow3 hat3 hown3
        have e0 := (appended hgrow3 hb0 hbb hn0).other (B' := R) (by omega) 4 (.slice (some ⟨g2, 0, none⟩) (j + 1) cap2)
        have e1 := (appended hgrow3 hb1 hbb hn1).other (B' := R) (by omega) 4 (.slice (some ⟨g2, 0, none⟩) (j + 1) cap2)
        have e2 := hap.set 4 (.slice (some ⟨g2, 0, none⟩) (j + 1) cap2)
        have hmk4 := hmk3.set (R := R) (by omega) 4 (.slice (some ⟨g2, 0, none⟩) (j + 1) cap2)
        have hB4 : Below N w (w3.setCell ⟨R, 4, none⟩ (.slice (some ⟨g2, 0, none⟩) (j + 1) cap2)) := bset hB3 (by omega) _
        have hvb4 : Holds (w3.setCell ⟨R, 4, none⟩ (.slice (some ⟨g2, 0, none⟩) (j + 1) cap2)) (fun b => N + 2 ≤ b ∧ b ≠ R ∧ b < M) tas (.slice va bn vc) := by
          have h5 := (hvb.drew.bel hbb).alloc (.cells #[.int .i64 u.kind, .slice x1 en x2, .int .i64 u.ty.base, .int .i64 u.idx, .slice x3 em x4] 27)
          refine h5.keep fun b hb ho => ⟨?_, ho⟩
          have h6 : vk.ownBlock ≠ some b := fun e => by have := (hmk2.lt b e).1; omega
          exact (Below.heap_setCell w3 ⟨R, 4, none⟩ _ b ho.2.1).trans (hgrow3.block b hb (fun e => h6 e.symm))
        have hM4 : M ≤ (w3.setCell ⟨R, 4, none⟩ (.slice (some ⟨g2, 0, none⟩) (j + 1) cap2)).heap.size := by have := hmk4.lt g2 rfl; omega
        clear hown3 hgrow3 hat3 hlt3 hB2 hB3 hmk2 hmk3 z3a z3 hbb p3 pf hap hvb
        generalize w3.setCell ⟨R, 4, none⟩ (.slice (some ⟨g2, 0, none⟩) (j + 1) cap2) = W4 at *
        go_wp2
        exact ⟨⟨j + 1, .slice (some ⟨g2, 0, none⟩) (j + 1) cap2, ps ++ [⟨.slice x1 en x2, .slice x3 em x4, u⟩], by omega, by go_num, by show _ = _; rw [List.map_append]; exact HP2.out, e0, e1, e2, hM4, hmk4, hvb4, hB4⟩, by simp [intOf]; omega⟩
    · obtain rfl : j = ts.length := by omega
      have x0 := hb2.cell 0
      have x1 := hb2.cell 1
      have x2 := hb2.cell 2
      have x3 := hb2.cell 3
      have s0 := hb1.cell 0
      have s1 := hb1.cell 1
      have s2 := hb1.cell 2
      have s3 := hb1.cell 3
      have s4 := hb1.cell 4
      have f0 := hb1.frozen 0
      have f1 := hb1.frozen 1
      have f2 := hb1.frozen 2
      have f3 := hb1.frozen 3
      have f4 := hb1.frozen 4
      have hh4 := hmk.holds
      rw [HP.out, List.take_length] at hh4
      obtain ⟨ra, rc, rfl, _⟩ := hh4.shape
      have c0 := ((((hb1.set 0 (.int .i64 k)).set 1 (.slice va bn vc)).set 2 (.int .i64 tb)).set 3 (.int .i64 x)).set 4 (.slice ra ts.length rc)
      have hh5 := holdsR_set5 (g := N + 1) (ok' := fun b => N ≤ b) hh4 (fun b _ h => ⟨by omega, by omega⟩) (.int .i64 k) (.slice va bn vc) (.int .i64 tb) (.int .i64 x) (.slice ra ts.length rc)
      have hh6 := holds_set5 (g := N + 1) (ok' := fun b => N ≤ b) hvb (fun b _ h => ⟨by omega, by omega⟩) (.int .i64 k) (.slice va bn vc) (.int .i64 tb) (.int .i64 x) (.slice ra ts.length rc)
      have hB5 : Below N w (((((wr.setCell ⟨N + 1, 0, none⟩ (.int .i64 k)).setCell ⟨N + 1, 1, none⟩ (.slice va bn vc)).setCell ⟨N + 1, 2, none⟩ (.int .i64 tb)).setCell ⟨N + 1, 3, none⟩ (.int .i64 x)).setCell ⟨N + 1, 4, none⟩ (.slice ra ts.length rc)) := bset (bset (bset (bset (bset hbl (by omega) _) (by omega) _) (by omega) _) (by omega) _) (by omega) _
      go_wp2
      generalize ((((wr.setCell ⟨N + 1, 0, none⟩ (.int .i64 k)).setCell ⟨N + 1, 1, none⟩ (.slice va bn vc)).setCell ⟨N + 1, 2, none⟩ (.int .i64 tb)).setCell ⟨N + 1, 3, none⟩ (.int .i64 x)).setCell ⟨N + 1, 4, none⟩ (.slice ra ts.length rc) = W5 at *
      have d0 : W5.cell? ⟨N + 1, 0, none⟩ = some (.int .i64 k) := c0.cell 0
      have d1 : W5.cell? ⟨N + 1, 1, none⟩ = some (.slice va bn vc) := c0.cell 1
      have d2 : W5.cell? ⟨N + 1, 2, none⟩ = some (.int .i64 tb) := c0.cell 2
      have d3 : W5.cell? ⟨N + 1, 3, none⟩ = some (.int .i64 x) := c0.cell 3
      have d4 : W5.cell? ⟨N + 1, 4, none⟩ = some (.slice ra ts.length rc) := c0.cell 4
      exact bodyPost_ret (v := rwv k (.slice va bn vc) tb x (.slice ra ts.length rc)) (by simp [results, Try.results19, go_sem, d0, d1, d2, d3, d4]) rfl ⟨_, _, rfl, hh6, hh5, hB5⟩

end Go.Proofs.Ytckagmagjogmnaa

namespace Go.Proofs.Ytckagmagjogmnaa
open Go Go.RowKit Go.Sort

set_option maxRecDepth 100000 in
set_option maxHeartbeats 3200000 in
theorem SameR_calls (t : Rw) : ∀ (t' : Rw) (ok ok' : Nat → Prop) (sb sl sb' sl' : Value) (w : World), Holds w ok t.ty.args sb → HoldsR w ok t.kids sl → Holds w ok' t'.ty.args sb' → HoldsR w ok' t'.kids sl' → t.total ≤ 1000000 →
    Calls Try.prog 18 #[rwv t.kind sb t.ty.base t.idx sl, rwv t'.kind sb' t'.ty.base t'.idx sl'] w fun e w' => e = .returned (.bool (t.same t')) ∧ Below w.heap.size w w' := by
  induction t using Rw.ind with
  | h t ih =>
  intro t' ok ok' sb sl sb' sl' w hb ha hb' ha' hsz
  obtain ⟨ts, hts⟩ : ∃ ts, t.kids = ts := ⟨_, rfl⟩
  obtain ⟨us, hus⟩ : ∃ us, t'.kids = us := ⟨_, rfl⟩
  have hse := t.same_eq t'
  have htot := t.total_eq
  rw [hts] at htot
  rw [hts, hus] at hse
  rw [hts] at ha ih
  rw [hus] at ha'
  have HL : Hid _ := hse
  have HIH : Hid _ := ih
  have HTOT : Hid _ := htot
  have hln := totalR_length ts
  have hkl : ts.length ≤ 1000000 := by omega
  obtain ⟨B, hB⟩ : ∃ B, w.heap.size = B := ⟨_, rfl⟩
  have HB : Hid (w.heap.size = B) := hB
  have hty0 := fun (cur : World) (h1 : Holds cur ok t.ty.args sb) (h2 : Holds cur ok' t'.ty.args sb') => Same_calls t.ty t'.ty ok ok' sb sb' cur h1 h2 (by omega)
  obtain ⟨x1, x2, hx, _⟩ := hb.shape
  obtain ⟨x3, x4, hx', _⟩ := hb'.shape
  generalize t.ty.args.length = bn at hx
  generalize t'.ty.args.length = bn' at hx'
  subst hx hx'
  obtain ⟨a, cap, rfl, hcap, hat⟩ := ha.shape
  have HA : Hid _ := hat
  obtain ⟨a', cap', rfl, hcap', hat'⟩ := ha'.shape
  have HA' : Hid _ := hat'
  clear hat hat' hse ih
  rw [hB]
  obtain ⟨rs, hrs⟩ : ∃ rs, t.same t' = rs := ⟨_, rfl⟩
  obtain ⟨ka, hka⟩ : ∃ ka, t.kind = ka := ⟨_, rfl⟩
  obtain ⟨kb, hkb⟩ : ∃ kb, t'.kind = kb := ⟨_, rfl⟩
  obtain ⟨ia, hia⟩ : ∃ ia, t.idx = ia := ⟨_, rfl⟩
  obtain ⟨ib, hib⟩ : ∃ ib, t'.idx = ib := ⟨_, rfl⟩
  obtain ⟨r1, hr1⟩ : ∃ r, t.ty.same t'.ty = r := ⟨_, rfl⟩
  rw [hrs, hka, hkb, hia, hib, hr1] at HL
  rw [hrs, hka, hkb, hia, hib]
  obtain ⟨w0, hw0⟩ : ∃ w0, (w.alloc (.cells #[.int .i64 ka, .slice x1 bn x2, .int .i64 t.ty.base, .int .i64 ia, .slice a ts.length cap] 27)).alloc (.cells #[.int .i64 kb, .slice x3 bn' x4, .int .i64 t'.ty.base, .int .i64 ib, .slice a' us.length cap'] 27) = w0 := ⟨_, rfl⟩
  have b0 : Blk w0 B 27 #[.int .i64 ka, .slice x1 bn x2, .int .i64 t.ty.base, .int .i64 ia, .slice a ts.length cap] := by rw [← hw0]; exact (Blk.new' w B 27 _ hB).alloc _
  have b1 : Blk w0 (B + 1) 27 #[.int .i64 kb, .slice x3 bn' x4, .int .i64 t'.ty.base, .int .i64 ib, .slice a' us.length cap'] := by rw [← hw0]; exact Blk.new' _ (B + 1) 27 _ (by simp [hB])
  have bl0 : Below B w w0 := by rw [← hw0]; exact ((Below.refl B w).alloc (by omega) _).alloc (by simp; omega) _
  have hty := hty0 w0 (hb.bel (hB ▸ bl0)) (hb'.bel (hB ▸ bl0))
  rw [hr1] at hty
  have c0 := b0.cell 0
  have c1 := b0.cell 1
  have c2 := b0.cell 2
  have c3 := b0.cell 3
  have c4 := b0.cell 4
  have e0 := b1.cell 0
  have e1 := b1.cell 1
  have e2 := b1.cell 2
  have e3 := b1.cell 3
  have e4 := b1.cell 4
  have HW : Hid _ := hw0
  clear hrs hts hus hka hkb hia hib hr1 hw0 hty0 hb hb' ha ha' htot hln
  by_cases hk : ka = kb
  · subst hk
    by_cases hle : ts.length = us.length
    · have z2 : ((ts.length : Int) != (us.length : Int)) = false := by simp [hle]
      have HLE : Hid (ts.length = us.length) := hle
      clear hle
      by_cases h3 : ka = 3
      · subst h3
        have HR : Hid (rs = (r1 && sameR ts us)) := by show _ = _; rw [HL.out]; cases r1 <;> simp [isHd]
        clear HL
        go_enter Try.func18, Try.ntmps18
        go_upto_region 1 with fail
        rw [HW.out]
        clear HW
        go_wp2_with fail
        refine hty.mono ?_
        rintro e w1 ⟨rfl, hb1⟩
        replace b0 := b0.below hb1 b0.lt
        replace b1 := b1.below hb1 b1.lt
        replace bl0 : Below B w w1 := bl0.trans (hb1.mono (by have := bl0.size; omega))
        clear hty hb1 c0 c1 c2 c3 c4 e0 e1 e2 e3 e4
        cases r1 with
        | false =>
          go_wp2
          go_ret
          exact ⟨ret_bool (by rw [HR.out]; rfl), bl0⟩
        | true =>
          have HR3 : Hid (rs = sameR ts us) := by show _ = _; rw [HR.out]; exact Bool.true_and _
          clear HR
          have c4 := b0.cell 4
          have c0 := b0.cell 0
          have c1 := b0.cell 1
          go_wp2_with fail
          clear c4
          go_loopw [5] (fun i wr => ∃ k : Nat, k ≤ ts.length ∧ i = .int .i64 k ∧ Hid (SameUpR ts us k) ∧ Blk wr B 27 #[.int .i64 3, .slice x1 bn x2, .int .i64 t.ty.base, .int .i64 ia, .slice a ts.length cap] ∧ Blk wr (B + 1) 27 #[.int .i64 3, .slice x3 bn' x4, .int .i64 t'.ty.base, .int .i64 ib, .slice a' us.length cap'] ∧ Below B w wr) (fun i _ => ts.length - (intOf i).toNat)
          case atStart => exact ⟨0, Nat.zero_le _, rfl, fun _ _ _ h => by omega, b0, b1, bl0⟩
          case round =>
            clear b0 b1 bl0
            clear c0 c1
            try clear c0 c1 c2 c3 e0 e1 e2 e3 e4
            obtain ⟨k, hk, rfl, HF, k0, k1, hbl⟩ := hrel
            have m0' := k0.cell 4
            have m1' := k1.cell 4
            by_cases hlt : k < ts.length
            · obtain ⟨u, hu⟩ : ∃ u, ts[k]? = some u := ⟨_, List.getElem?_eq_getElem hlt⟩
              have hlt' : k < us.length := by have := HLE.out; omega
              obtain ⟨v, hv⟩ : ∃ v, us[k]? = some v := ⟨_, List.getElem?_eq_getElem hlt'⟩
              obtain ⟨g, o, s, r, rfl, _, hg, a0, a1, a2, a3, a4, hs, hr⟩ := HA.out k u hu
              obtain ⟨g', o', s', r', rfl, _, hg', d0, d1, d2, d3, d4, hs', hr'⟩ := HA'.out k v hv
              rw [HB.out] at hg hg'
              have q0 := fun d os => cell_regrown ((cat hbl hg).trans a0) d os
              have q1 := fun d os => cell_regrown ((cat hbl hg).trans a1) d os
              have q2 := fun d os => cell_regrown ((cat hbl hg).trans a2) d os
              have q3 := fun d os => cell_regrown ((cat hbl hg).trans a3) d os
              have q4 := fun d os => cell_regrown ((cat hbl hg).trans a4) d os
              have p0 := fun d os => cell_regrown ((cat hbl hg').trans d0) d os
              have p1 := fun d os => cell_regrown ((cat hbl hg').trans d1) d os
              have p2 := fun d os => cell_regrown ((cat hbl hg').trans d2) d os
              have p3 := fun d os => cell_regrown ((cat hbl hg').trans d3) d os
              have p4 := fun d os => cell_regrown ((cat hbl hg').trans d4) d os
              have m0 := fun d os => cell_regrown m0' d os
              have m1 := fun d os => cell_regrown m1' d os
              have hm := List.mem_of_getElem? hu
              have hus2 := rtotal_mem hm
              have y1 : (0 : Int) ≤ (k : Int) := by omega
              have y2 : (k : Int) < (ts.length : Int) := by omega
              have y3 : (k : Int) < (us.length : Int) := by omega
              have hs2 := hs.bel (HB.out ▸ hbl)
              have hs2' := hs'.bel (HB.out ▸ hbl)
              have hr2 := hr.bel (HB.out ▸ hbl)
              have hr2' := hr'.bel (HB.out ▸ hbl)
              have HU : Hid (ts[k]? = some u) := hu
              have HV : Hid (us[k]? = some v) := hv
              obtain ⟨rr, hrr⟩ : ∃ r, u.same v = r := ⟨_, rfl⟩
              have HR2 : Hid (u.same v = rr) := hrr
              have CC : Hid (∀ d os, Calls Try.prog 18 #[rwv u.kind s u.ty.base u.idx r, rwv v.kind s' v.ty.base v.idx r'] (grow (redrawn wr d) os) fun e w'' => e = .returned (.bool rr) ∧ ∃ p : Regrown, w'' = grow (redrawn wr p.d) p.os) := fun d os =>
                Calls.regrown_of (by rw [← hrr]; exact HIH.out u hm v ok ok' s r s' r' _ (hs2.bel (below_regrown wr d os)) (hr2.bel (below_regrown wr d os)) (hs2'.bel (below_regrown wr d os)) (hr2'.bel (below_regrown wr d os)) (by have := HTOT.out; omega))
              clear a0 a1 a2 a3 a4 d0 d1 d2 d3 d4 hu hv hrr hs hs' hr hr' hs2 hs2' hr2 hr2'
              go_wp2_with fail
              refine wp_region_quiet_below (by kernel_rfl) (by kernel_rfl) ?_
              repeat (go_big_quiet_step ((go_at_call 18; exact CC.out _ _)))
              refine wpQuiet_nil ?_
              intro w2 hw'
              obtain ⟨p, hw''⟩ := hw'
              have hb2 : Below wr.heap.size wr w2 := by rw [hw'']; exact below_regrown _ _ _
              clear hw'' p q0 q1 q2 q3 q4 p0 p1 p2 p3 p4 m0 m1
              have hB2 : Below B w w2 := hbl.trans (hb2.mono (by have := hbl.size; rw [HB.out] at this; omega))
              cases rr
              · go_wp2
                go_ret
                exact ⟨ret_bool (by rw [HR3.out]; exact (sameR_no _ _ _ _ _ HU.out HV.out HR2.out).symm), hB2⟩
              · go_wp2
                go_roundw
                case rel => exact ⟨k + 1, by omega, by go_num, HF.out.step HU.out HV.out HR2.out, k0.below hb2 k0.lt, k1.below hb2 k1.lt, hB2⟩
                case measure => simp [intOf]; omega
            · obtain rfl : k = ts.length := by omega
              go_wp2
              go_ret
              exact ⟨ret_bool (by rw [HR3.out]; exact (sameR_of_up _ _ HLE.out fun i x y hx hy => HF.out i x y (List.getElem?_eq_some_iff.1 hx).1 hx hy).symm), hbl⟩
      · have z3 : (ka == 3) = false := by simp [h3]
        rcases isHd_cases ka with ⟨h9, e9⟩ | ⟨h9, e9⟩ | ⟨h9, e9⟩ | ⟨h90, h91, h92, e9⟩
        · subst h9
          clear h3 e9
          by_cases hi : ia = ib
          · subst hi
            have HR3 : Hid (rs = sameR ts us) := by show _ = _; rw [HL.out]; simp
            clear HL hty
            go_enter Try.func18, Try.ntmps18
            go_upto_region 1 with fail
            rw [HW.out]
            clear HW
            replace c4 := b0.cell 4
            go_wp2_with fail
            clear c4
            go_loopw [5] (fun i wr => ∃ k : Nat, k ≤ ts.length ∧ i = .int .i64 k ∧ Hid (SameUpR ts us k) ∧ Blk wr B 27 #[.int .i64 0, .slice x1 bn x2, .int .i64 t.ty.base, .int .i64 ia, .slice a ts.length cap] ∧ Blk wr (B + 1) 27 #[.int .i64 0, .slice x3 bn' x4, .int .i64 t'.ty.base, .int .i64 ia, .slice a' us.length cap'] ∧ Below B w wr) (fun i _ => ts.length - (intOf i).toNat)
            case atStart => exact ⟨0, Nat.zero_le _, rfl, fun _ _ _ h => by omega, b0, b1, bl0⟩
            case round =>
              clear b0 b1 bl0
              try clear c0 c1 c2 c3 e0 e1 e2 e3 e4
              obtain ⟨k, hk, rfl, HF, k0, k1, hbl⟩ := hrel
              have m0' := k0.cell 4
              have m1' := k1.cell 4
              by_cases hlt : k < ts.length
              · obtain ⟨u, hu⟩ : ∃ u, ts[k]? = some u := ⟨_, List.getElem?_eq_getElem hlt⟩
                have hlt' : k < us.length := by have := HLE.out; omega
                obtain ⟨v, hv⟩ : ∃ v, us[k]? = some v := ⟨_, List.getElem?_eq_getElem hlt'⟩
                obtain ⟨g, o, s, r, rfl, _, hg, a0, a1, a2, a3, a4, hs, hr⟩ := HA.out k u hu
                obtain ⟨g', o', s', r', rfl, _, hg', d0, d1, d2, d3, d4, hs', hr'⟩ := HA'.out k v hv
                rw [HB.out] at hg hg'
                have q0 := fun d os => cell_regrown ((cat hbl hg).trans a0) d os
                have q1 := fun d os => cell_regrown ((cat hbl hg).trans a1) d os
                have q2 := fun d os => cell_regrown ((cat hbl hg).trans a2) d os
                have q3 := fun d os => cell_regrown ((cat hbl hg).trans a3) d os
                have q4 := fun d os => cell_regrown ((cat hbl hg).trans a4) d os
                have p0 := fun d os => cell_regrown ((cat hbl hg').trans d0) d os
                have p1 := fun d os => cell_regrown ((cat hbl hg').trans d1) d os
                have p2 := fun d os => cell_regrown ((cat hbl hg').trans d2) d os
                have p3 := fun d os => cell_regrown ((cat hbl hg').trans d3) d os
                have p4 := fun d os => cell_regrown ((cat hbl hg').trans d4) d os
                have m0 := fun d os => cell_regrown m0' d os
                have m1 := fun d os => cell_regrown m1' d os
                have hm := List.mem_of_getElem? hu
                have hus2 := rtotal_mem hm
                have y1 : (0 : Int) ≤ (k : Int) := by omega
                have y2 : (k : Int) < (ts.length : Int) := by omega
                have y3 : (k : Int) < (us.length : Int) := by omega
                have hs2 := hs.bel (HB.out ▸ hbl)
                have hs2' := hs'.bel (HB.out ▸ hbl)
                have hr2 := hr.bel (HB.out ▸ hbl)
                have hr2' := hr'.bel (HB.out ▸ hbl)
                have HU : Hid (ts[k]? = some u) := hu
                have HV : Hid (us[k]? = some v) := hv
                obtain ⟨rr, hrr⟩ : ∃ r, u.same v = r := ⟨_, rfl⟩
                have HR2 : Hid (u.same v = rr) := hrr
                have CC : Hid (∀ d os, Calls Try.prog 18 #[rwv u.kind s u.ty.base u.idx r, rwv v.kind s' v.ty.base v.idx r'] (grow (redrawn wr d) os) fun e w'' => e = .returned (.bool rr) ∧ ∃ p : Regrown, w'' = grow (redrawn wr p.d) p.os) := fun d os =>
                  Calls.regrown_of (by rw [← hrr]; exact HIH.out u hm v ok ok' s r s' r' _ (hs2.bel (below_regrown wr d os)) (hr2.bel (below_regrown wr d os)) (hs2'.bel (below_regrown wr d os)) (hr2'.bel (below_regrown wr d os)) (by have := HTOT.out; omega))
                clear a0 a1 a2 a3 a4 d0 d1 d2 d3 d4 hu hv hrr hs hs' hr hr' hs2 hs2' hr2 hr2'
                go_wp2_with fail
                refine wp_region_quiet_below (by kernel_rfl) (by kernel_rfl) ?_
                repeat (go_big_quiet_step ((go_at_call 18; exact CC.out _ _)))
                refine wpQuiet_nil ?_
                intro w2 hw'
                obtain ⟨p, hw''⟩ := hw'
                have hb2 : Below wr.heap.size wr w2 := by rw [hw'']; exact below_regrown _ _ _
                clear hw'' p q0 q1 q2 q3 q4 p0 p1 p2 p3 p4 m0 m1
                have hB2 : Below B w w2 := hbl.trans (hb2.mono (by have := hbl.size; rw [HB.out] at this; omega))
                cases rr
                · go_wp2
                  go_ret
                  exact ⟨ret_bool (by rw [HR3.out]; exact (sameR_no _ _ _ _ _ HU.out HV.out HR2.out).symm), hB2⟩
                · go_wp2
                  go_roundw
                  case rel => exact ⟨k + 1, by omega, by go_num, HF.out.step HU.out HV.out HR2.out, k0.below hb2 k0.lt, k1.below hb2 k1.lt, hB2⟩
                  case measure => simp [intOf]; omega
              · obtain rfl : k = ts.length := by omega
                go_wp2
                go_ret
                exact ⟨ret_bool (by rw [HR3.out]; exact (sameR_of_up _ _ HLE.out fun i x y hx hy => HF.out i x y (List.getElem?_eq_some_iff.1 hx).1 hx hy).symm), hbl⟩
          · have zi : (ia != ib) = true := by simp [hi]
            have HR : Hid (rs = false) := by show _ = _; rw [HL.out]; simp [hi, isHd]
            clear HL hty hi
            go_enter Try.func18, Try.ntmps18
            go_upto_region 1 with fail
            rw [HW.out]
            clear HW
            go_wp2
            go_ret
            exact ⟨ret_bool HR.out.symm, bl0⟩
        · subst h9
          clear h3 e9
          by_cases hi : ia = ib
          · subst hi
            have HR3 : Hid (rs = sameR ts us) := by show _ = _; rw [HL.out]; simp
            clear HL hty
            go_enter Try.func18, Try.ntmps18
            go_upto_region 1 with fail
            rw [HW.out]
            clear HW
            replace c4 := b0.cell 4
            go_wp2_with fail
            clear c4
            go_loopw [5] (fun i wr => ∃ k : Nat, k ≤ ts.length ∧ i = .int .i64 k ∧ Hid (SameUpR ts us k) ∧ Blk wr B 27 #[.int .i64 1, .slice x1 bn x2, .int .i64 t.ty.base, .int .i64 ia, .slice a ts.length cap] ∧ Blk wr (B + 1) 27 #[.int .i64 1, .slice x3 bn' x4, .int .i64 t'.ty.base, .int .i64 ia, .slice a' us.length cap'] ∧ Below B w wr) (fun i _ => ts.length - (intOf i).toNat)
            case atStart => exact ⟨0, Nat.zero_le _, rfl, fun _ _ _ h => by omega, b0, b1, bl0⟩
            case round =>
              clear b0 b1 bl0
              try clear c0 c1 c2 c3 e0 e1 e2 e3 e4
              obtain ⟨k, hk, rfl, HF, k0, k1, hbl⟩ := hrel
              have m0' := k0.cell 4
              have m1' := k1.cell 4
              by_cases hlt : k < ts.length
              · obtain ⟨u, hu⟩ : ∃ u, ts[k]? = some u := ⟨_, List.getElem?_eq_getElem hlt⟩
                have hlt' : k < us.length := by have := HLE.out; omega
                obtain ⟨v, hv⟩ : ∃ v, us[k]? = some v := ⟨_, List.getElem?_eq_getElem hlt'⟩
                obtain ⟨g, o, s, r, rfl, _, hg, a0, a1, a2, a3, a4, hs, hr⟩ := HA.out k u hu
                obtain ⟨g', o', s', r', rfl, _, hg', d0, d1, d2, d3, d4, hs', hr'⟩ := HA'.out k v hv
                rw [HB.out] at hg hg'
                have q0 := fun d os => cell_regrown ((cat hbl hg).trans a0) d os
                have q1 := fun d os => cell_regrown ((cat hbl hg).trans a1) d os
                have q2 := fun d os => cell_regrown ((cat hbl hg).trans a2) d os
                have q3 := fun d os => cell_regrown ((cat hbl hg).trans a3) d os
                have q4 := fun d os => cell_regrown ((cat hbl hg).trans a4) d os
                have p0 := fun d os => cell_regrown ((cat hbl hg').trans d0) d os
                have p1 := fun d os => cell_regrown ((cat hbl hg').trans d1) d os
                have p2 := fun d os => cell_regrown ((cat hbl hg').trans d2) d os
                have p3 := fun d os => cell_regrown ((cat hbl hg').trans d3) d os
                have p4 := fun d os => cell_regrown ((cat hbl hg').trans d4) d os
                have m0 := fun d os => cell_regrown m0' d os
                have m1 := fun d os => cell_regrown m1' d os
                have hm := List.mem_of_getElem? hu
                have hus2 := rtotal_mem hm
                have y1 : (0 : Int) ≤ (k : Int) := by omega
                have y2 : (k : Int) < (ts.length : Int) := by omega
                have y3 : (k : Int) < (us.length : Int) := by omega
                have hs2 := hs.bel (HB.out ▸ hbl)
                have hs2' := hs'.bel (HB.out ▸ hbl)
                have hr2 := hr.bel (HB.out ▸ hbl)
                have hr2' := hr'.bel (HB.out ▸ hbl)
                have HU : Hid (ts[k]? = some u) := hu
                have HV : Hid (us[k]? = some v) := hv
                obtain ⟨rr, hrr⟩ : ∃ r, u.same v = r := ⟨_, rfl⟩
                have HR2 : Hid (u.same v = rr) := hrr
                have CC : Hid (∀ d os, Calls Try.prog 18 #[rwv u.kind s u.ty.base u.idx r, rwv v.kind s' v.ty.base v.idx r'] (grow (redrawn wr d) os) fun e w'' => e = .returned (.bool rr) ∧ ∃ p : Regrown, w'' = grow (redrawn wr p.d) p.os) := fun d os =>
                  Calls.regrown_of (by rw [← hrr]; exact HIH.out u hm v ok ok' s r s' r' _ (hs2.bel (below_regrown wr d os)) (hr2.bel (below_regrown wr d os)) (hs2'.bel (below_regrown wr d os)) (hr2'.bel (below_regrown wr d os)) (by have := HTOT.out; omega))
                clear a0 a1 a2 a3 a4 d0 d1 d2 d3 d4 hu hv hrr hs hs' hr hr' hs2 hs2' hr2 hr2'
                go_wp2_with fail
                refine wp_region_quiet_below (by kernel_rfl) (by kernel_rfl) ?_
                repeat (go_big_quiet_step ((go_at_call 18; exact CC.out _ _)))
                refine wpQuiet_nil ?_
                intro w2 hw'
                obtain ⟨p, hw''⟩ := hw'
                have hb2 : Below wr.heap.size wr w2 := by rw [hw'']; exact below_regrown _ _ _
                clear hw'' p q0 q1 q2 q3 q4 p0 p1 p2 p3 p4 m0 m1
                have hB2 : Below B w w2 := hbl.trans (hb2.mono (by have := hbl.size; rw [HB.out] at this; omega))
                cases rr
                · go_wp2
                  go_ret
                  exact ⟨ret_bool (by rw [HR3.out]; exact (sameR_no _ _ _ _ _ HU.out HV.out HR2.out).symm), hB2⟩
                · go_wp2
                  go_roundw
                  case rel => exact ⟨k + 1, by omega, by go_num, HF.out.step HU.out HV.out HR2.out, k0.below hb2 k0.lt, k1.below hb2 k1.lt, hB2⟩
                  case measure => simp [intOf]; omega
              · obtain rfl : k = ts.length := by omega
                go_wp2
                go_ret
                exact ⟨ret_bool (by rw [HR3.out]; exact (sameR_of_up _ _ HLE.out fun i x y hx hy => HF.out i x y (List.getElem?_eq_some_iff.1 hx).1 hx hy).symm), hbl⟩
          · have zi : (ia != ib) = true := by simp [hi]
            have HR : Hid (rs = false) := by show _ = _; rw [HL.out]; simp [hi, isHd]
            clear HL hty hi
            go_enter Try.func18, Try.ntmps18
            go_upto_region 1 with fail
            rw [HW.out]
            clear HW
            go_wp2
            go_ret
            exact ⟨ret_bool HR.out.symm, bl0⟩
        · subst h9
          clear h3 e9
          by_cases hi : ia = ib
          · subst hi
            have HR3 : Hid (rs = sameR ts us) := by show _ = _; rw [HL.out]; simp
            clear HL hty
            go_enter Try.func18, Try.ntmps18
            go_upto_region 1 with fail
            rw [HW.out]
            clear HW
            replace c4 := b0.cell 4
            go_wp2_with fail
            clear c4
            go_loopw [5] (fun i wr => ∃ k : Nat, k ≤ ts.length ∧ i = .int .i64 k ∧ Hid (SameUpR ts us k) ∧ Blk wr B 27 #[.int .i64 2, .slice x1 bn x2, .int .i64 t.ty.base, .int .i64 ia, .slice a ts.length cap] ∧ Blk wr (B + 1) 27 #[.int .i64 2, .slice x3 bn' x4, .int .i64 t'.ty.base, .int .i64 ia, .slice a' us.length cap'] ∧ Below B w wr) (fun i _ => ts.length - (intOf i).toNat)
            case atStart => exact ⟨0, Nat.zero_le _, rfl, fun _ _ _ h => by omega, b0, b1, bl0⟩
            case round =>
              clear b0 b1 bl0
              try clear c0 c1 c2 c3 e0 e1 e2 e3 e4
              obtain ⟨k, hk, rfl, HF, k0, k1, hbl⟩ := hrel
              have m0' := k0.cell 4
              have m1' := k1.cell 4
              by_cases hlt : k < ts.length
              · obtain ⟨u, hu⟩ : ∃ u, ts[k]? = some u := ⟨_, List.getElem?_eq_getElem hlt⟩
                have hlt' : k < us.length := by have := HLE.out; omega
                obtain ⟨v, hv⟩ : ∃ v, us[k]? = some v := ⟨_, List.getElem?_eq_getElem hlt'⟩
                obtain ⟨g, o, s, r, rfl, _, hg, a0, a1, a2, a3, a4, hs, hr⟩ := HA.out k u hu
                obtain ⟨g', o', s', r', rfl, _, hg', d0, d1, d2, d3, d4, hs', hr'⟩ := HA'.out k v hv
                rw [HB.out] at hg hg'
                have q0 := fun d os => cell_regrown ((cat hbl hg).trans a0) d os
                have q1 := fun d os => cell_regrown ((cat hbl hg).trans a1) d os
                have q2 := fun d os => cell_regrown ((cat hbl hg).trans a2) d os
                have q3 := fun d os => cell_regrown ((cat hbl hg).trans a3) d os
                have q4 := fun d os => cell_regrown ((cat hbl hg).trans a4) d os
                have p0 := fun d os => cell_regrown ((cat hbl hg').trans d0) d os
                have p1 := fun d os => cell_regrown ((cat hbl hg').trans d1) d os
                have p2 := fun d os => cell_regrown ((cat hbl hg').trans d2) d os
                have p3 := fun d os => cell_regrown ((cat hbl hg').trans d3) d os
                have p4 := fun d os => cell_regrown ((cat hbl hg').trans d4) d os
                have m0 := fun d os => cell_regrown m0' d os
                have m1 := fun d os => cell_regrown m1' d os
                have hm := List.mem_of_getElem? hu
                have hus2 := rtotal_mem hm
                have y1 : (0 : Int) ≤ (k : Int) := by omega
                have y2 : (k : Int) < (ts.length : Int) := by omega
                have y3 : (k : Int) < (us.length : Int) := by omega
                have hs2 := hs.bel (HB.out ▸ hbl)
                have hs2' := hs'.bel (HB.out ▸ hbl)
                have hr2 := hr.bel (HB.out ▸ hbl)
                have hr2' := hr'.bel (HB.out ▸ hbl)
                have HU : Hid (ts[k]? = some u) := hu
                have HV : Hid (us[k]? = some v) := hv
                obtain ⟨rr, hrr⟩ : ∃ r, u.same v = r := ⟨_, rfl⟩
                have HR2 : Hid (u.same v = rr) := hrr
                have CC : Hid (∀ d os, Calls Try.prog 18 #[rwv u.kind s u.ty.base u.idx r, rwv v.kind s' v.ty.base v.idx r'] (grow (redrawn wr d) os) fun e w'' => e = .returned (.bool rr) ∧ ∃ p : Regrown, w'' = grow (redrawn wr p.d) p.os) := fun d os =>
                  Calls.regrown_of (by rw [← hrr]; exact HIH.out u hm v ok ok' s r s' r' _ (hs2.bel (below_regrown wr d os)) (hr2.bel (below_regrown wr d os)) (hs2'.bel (below_regrown wr d os)) (hr2'.bel (below_regrown wr d os)) (by have := HTOT.out; omega))
                clear a0 a1 a2 a3 a4 d0 d1 d2 d3 d4 hu hv hrr hs hs' hr hr' hs2 hs2' hr2 hr2'
                go_wp2_with fail
                refine wp_region_quiet_below (by kernel_rfl) (by kernel_rfl) ?_
                repeat (go_big_quiet_step ((go_at_call 18; exact CC.out _ _)))
                refine wpQuiet_nil ?_
                intro w2 hw'
                obtain ⟨p, hw''⟩ := hw'
                have hb2 : Below wr.heap.size wr w2 := by rw [hw'']; exact below_regrown _ _ _
                clear hw'' p q0 q1 q2 q3 q4 p0 p1 p2 p3 p4 m0 m1
                have hB2 : Below B w w2 := hbl.trans (hb2.mono (by have := hbl.size; rw [HB.out] at this; omega))
                cases rr
                · go_wp2
                  go_ret
                  exact ⟨ret_bool (by rw [HR3.out]; exact (sameR_no _ _ _ _ _ HU.out HV.out HR2.out).symm), hB2⟩
                · go_wp2
                  go_roundw
                  case rel => exact ⟨k + 1, by omega, by go_num, HF.out.step HU.out HV.out HR2.out, k0.below hb2 k0.lt, k1.below hb2 k1.lt, hB2⟩
                  case measure => simp [intOf]; omega
              · obtain rfl : k = ts.length := by omega
                go_wp2
                go_ret
                exact ⟨ret_bool (by rw [HR3.out]; exact (sameR_of_up _ _ HLE.out fun i x y hx hy => HF.out i x y (List.getElem?_eq_some_iff.1 hx).1 hx hy).symm), hbl⟩
          · have zi : (ia != ib) = true := by simp [hi]
            have HR : Hid (rs = false) := by show _ = _; rw [HL.out]; simp [hi, isHd]
            clear HL hty hi
            go_enter Try.func18, Try.ntmps18
            go_upto_region 1 with fail
            rw [HW.out]
            clear HW
            go_wp2
            go_ret
            exact ⟨ret_bool HR.out.symm, bl0⟩
        · have HR3 : Hid (rs = sameR ts us) := by show _ = _; rw [HL.out, z3, e9]; simp
          clear HL hty
          by_cases hneg : 0 ≤ ka
          · have y8 : decide (0 ≤ ka) = true := by simp; omega
            have y9 : decide (ka < 3) = false := by simp; omega
            clear h90 h91 h92 e9 h3
            go_enter Try.func18, Try.ntmps18
            go_upto_region 1 with fail
            rw [HW.out]
            clear HW
            replace c4 := b0.cell 4
            go_wp2_with fail
            clear c4
            go_loopw [5] (fun i wr => ∃ k : Nat, k ≤ ts.length ∧ i = .int .i64 k ∧ Hid (SameUpR ts us k) ∧ Blk wr B 27 #[.int .i64 ka, .slice x1 bn x2, .int .i64 t.ty.base, .int .i64 ia, .slice a ts.length cap] ∧ Blk wr (B + 1) 27 #[.int .i64 ka, .slice x3 bn' x4, .int .i64 t'.ty.base, .int .i64 ib, .slice a' us.length cap'] ∧ Below B w wr) (fun i _ => ts.length - (intOf i).toNat)
            case atStart => exact ⟨0, Nat.zero_le _, rfl, fun _ _ _ h => by omega, b0, b1, bl0⟩
            case round =>
              clear b0 b1 bl0
              try clear c0 c1 c2 c3 e0 e1 e2 e3 e4
              obtain ⟨k, hk, rfl, HF, k0, k1, hbl⟩ := hrel
              have m0' := k0.cell 4
              have m1' := k1.cell 4
              by_cases hlt : k < ts.length
              · obtain ⟨u, hu⟩ : ∃ u, ts[k]? = some u := ⟨_, List.getElem?_eq_getElem hlt⟩
                have hlt' : k < us.length := by have := HLE.out; omega
                obtain ⟨v, hv⟩ : ∃ v, us[k]? = some v := ⟨_, List.getElem?_eq_getElem hlt'⟩
                obtain ⟨g, o, s, r, rfl, _, hg, a0, a1, a2, a3, a4, hs, hr⟩ := HA.out k u hu
                obtain ⟨g', o', s', r', rfl, _, hg', d0, d1, d2, d3, d4, hs', hr'⟩ := HA'.out k v hv
                rw [HB.out] at hg hg'
                have q0 := fun d os => cell_regrown ((cat hbl hg).trans a0) d os
                have q1 := fun d os => cell_regrown ((cat hbl hg).trans a1) d os
                have q2 := fun d os => cell_regrown ((cat hbl hg).trans a2) d os
                have q3 := fun d os => cell_regrown ((cat hbl hg).trans a3) d os
                have q4 := fun d os => cell_regrown ((cat hbl hg).trans a4) d os
                have p0 := fun d os => cell_regrown ((cat hbl hg').trans d0) d os
                have p1 := fun d os => cell_regrown ((cat hbl hg').trans d1) d os
                have p2 := fun d os => cell_regrown ((cat hbl hg').trans d2) d os
                have p3 := fun d os => cell_regrown ((cat hbl hg').trans d3) d os
                have p4 := fun d os => cell_regrown ((cat hbl hg').trans d4) d os
                have m0 := fun d os => cell_regrown m0' d os
                have m1 := fun d os => cell_regrown m1' d os
                have hm := List.mem_of_getElem? hu
                have hus2 := rtotal_mem hm
                have y1 : (0 : Int) ≤ (k : Int) := by omega
                have y2 : (k : Int) < (ts.length : Int) := by omega
                have y3 : (k : Int) < (us.length : Int) := by omega
                have hs2 := hs.bel (HB.out ▸ hbl)
                have hs2' := hs'.bel (HB.out ▸ hbl)
                have hr2 := hr.bel (HB.out ▸ hbl)
                have hr2' := hr'.bel (HB.out ▸ hbl)
                have HU : Hid (ts[k]? = some u) := hu
                have HV : Hid (us[k]? = some v) := hv
                obtain ⟨rr, hrr⟩ : ∃ r, u.same v = r := ⟨_, rfl⟩
                have HR2 : Hid (u.same v = rr) := hrr
                have CC : Hid (∀ d os, Calls Try.prog 18 #[rwv u.kind s u.ty.base u.idx r, rwv v.kind s' v.ty.base v.idx r'] (grow (redrawn wr d) os) fun e w'' => e = .returned (.bool rr) ∧ ∃ p : Regrown, w'' = grow (redrawn wr p.d) p.os) := fun d os =>
                  Calls.regrown_of (by rw [← hrr]; exact HIH.out u hm v ok ok' s r s' r' _ (hs2.bel (below_regrown wr d os)) (hr2.bel (below_regrown wr d os)) (hs2'.bel (below_regrown wr d os)) (hr2'.bel (below_regrown wr d os)) (by have := HTOT.out; omega))
                clear a0 a1 a2 a3 a4 d0 d1 d2 d3 d4 hu hv hrr hs hs' hr hr' hs2 hs2' hr2 hr2'
                go_wp2_with fail
                refine wp_region_quiet_below (by kernel_rfl) (by kernel_rfl) ?_
                repeat (go_big_quiet_step ((go_at_call 18; exact CC.out _ _)))
                refine wpQuiet_nil ?_
                intro w2 hw'
                obtain ⟨p, hw''⟩ := hw'
                have hb2 : Below wr.heap.size wr w2 := by rw [hw'']; exact below_regrown _ _ _
                clear hw'' p q0 q1 q2 q3 q4 p0 p1 p2 p3 p4 m0 m1
                have hB2 : Below B w w2 := hbl.trans (hb2.mono (by have := hbl.size; rw [HB.out] at this; omega))
                cases rr
                · go_wp2
                  go_ret
                  exact ⟨ret_bool (by rw [HR3.out]; exact (sameR_no _ _ _ _ _ HU.out HV.out HR2.out).symm), hB2⟩
                · go_wp2
                  go_roundw
                  case rel => exact ⟨k + 1, by omega, by go_num, HF.out.step HU.out HV.out HR2.out, k0.below hb2 k0.lt, k1.below hb2 k1.lt, hB2⟩
                  case measure => simp [intOf]; omega
              · obtain rfl : k = ts.length := by omega
                go_wp2
                go_ret
                exact ⟨ret_bool (by rw [HR3.out]; exact (sameR_of_up _ _ HLE.out fun i x y hx hy => HF.out i x y (List.getElem?_eq_some_iff.1 hx).1 hx hy).symm), hbl⟩
          · have y8 : decide (0 ≤ ka) = false := by simp; omega
            clear h90 h91 h92 e9 h3
            go_enter Try.func18, Try.ntmps18
            go_upto_region 1 with fail
            rw [HW.out]
            clear HW
            replace c4 := b0.cell 4
            go_wp2_with fail
            clear c4
            go_loopw [5] (fun i wr => ∃ k : Nat, k ≤ ts.length ∧ i = .int .i64 k ∧ Hid (SameUpR ts us k) ∧ Blk wr B 27 #[.int .i64 ka, .slice x1 bn x2, .int .i64 t.ty.base, .int .i64 ia, .slice a ts.length cap] ∧ Blk wr (B + 1) 27 #[.int .i64 ka, .slice x3 bn' x4, .int .i64 t'.ty.base, .int .i64 ib, .slice a' us.length cap'] ∧ Below B w wr) (fun i _ => ts.length - (intOf i).toNat)
            case atStart => exact ⟨0, Nat.zero_le _, rfl, fun _ _ _ h => by omega, b0, b1, bl0⟩
            case round =>
              clear b0 b1 bl0
              try clear c0 c1 c2 c3 e0 e1 e2 e3 e4
              obtain ⟨k, hk, rfl, HF, k0, k1, hbl⟩ := hrel
              have m0' := k0.cell 4
              have m1' := k1.cell 4
              by_cases hlt : k < ts.length
              · obtain ⟨u, hu⟩ : ∃ u, ts[k]? = some u := ⟨_, List.getElem?_eq_getElem hlt⟩
                have hlt' : k < us.length := by have := HLE.out; omega
                obtain ⟨v, hv⟩ : ∃ v, us[k]? = some v := ⟨_, List.getElem?_eq_getElem hlt'⟩
                obtain ⟨g, o, s, r, rfl, _, hg, a0, a1, a2, a3, a4, hs, hr⟩ := HA.out k u hu
                obtain ⟨g', o', s', r', rfl, _, hg', d0, d1, d2, d3, d4, hs', hr'⟩ := HA'.out k v hv
                rw [HB.out] at hg hg'
                have q0 := fun d os => cell_regrown ((cat hbl hg).trans a0) d os
                have q1 := fun d os => cell_regrown ((cat hbl hg).trans a1) d os
                have q2 := fun d os => cell_regrown ((cat hbl hg).trans a2) d os
                have q3 := fun d os => cell_regrown ((cat hbl hg).trans a3) d os
                have q4 := fun d os => cell_regrown ((cat hbl hg).trans a4) d os
                have p0 := fun d os => cell_regrown ((cat hbl hg').trans d0) d os
                have p1 := fun d os => cell_regrown ((cat hbl hg').trans d1) d os
                have p2 := fun d os => cell_regrown ((cat hbl hg').trans d2) d os
                have p3 := fun d os => cell_regrown ((cat hbl hg').trans d3) d os
                have p4 := fun d os => cell_regrown ((cat hbl hg').trans d4) d os
                have m0 := fun d os => cell_regrown m0' d os
                have m1 := fun d os => cell_regrown m1' d os
                have hm := List.mem_of_getElem? hu
                have hus2 := rtotal_mem hm
                have y1 : (0 : Int) ≤ (k : Int) := by omega
                have y2 : (k : Int) < (ts.length : Int) := by omega
                have y3 : (k : Int) < (us.length : Int) := by omega
                have hs2 := hs.bel (HB.out ▸ hbl)
                have hs2' := hs'.bel (HB.out ▸ hbl)
                have hr2 := hr.bel (HB.out ▸ hbl)
                have hr2' := hr'.bel (HB.out ▸ hbl)
                have HU : Hid (ts[k]? = some u) := hu
                have HV : Hid (us[k]? = some v) := hv
                obtain ⟨rr, hrr⟩ : ∃ r, u.same v = r := ⟨_, rfl⟩
                have HR2 : Hid (u.same v = rr) := hrr
                have CC : Hid (∀ d os, Calls Try.prog 18 #[rwv u.kind s u.ty.base u.idx r, rwv v.kind s' v.ty.base v.idx r'] (grow (redrawn wr d) os) fun e w'' => e = .returned (.bool rr) ∧ ∃ p : Regrown, w'' = grow (redrawn wr p.d) p.os) := fun d os =>
                  Calls.regrown_of (by rw [← hrr]; exact HIH.out u hm v ok ok' s r s' r' _ (hs2.bel (below_regrown wr d os)) (hr2.bel (below_regrown wr d os)) (hs2'.bel (below_regrown wr d os)) (hr2'.bel (below_regrown wr d os)) (by have := HTOT.out; omega))
                clear a0 a1 a2 a3 a4 d0 d1 d2 d3 d4 hu hv hrr hs hs' hr hr' hs2 hs2' hr2 hr2'
                go_wp2_with fail
                refine wp_region_quiet_below (by kernel_rfl) (by kernel_rfl) ?_
                repeat (go_big_quiet_step ((go_at_call 18; exact CC.out _ _)))
                refine wpQuiet_nil ?_
                intro w2 hw'
                obtain ⟨p, hw''⟩ := hw'
                have hb2 : Below wr.heap.size wr w2 := by rw [hw'']; exact below_regrown _ _ _
                clear hw'' p q0 q1 q2 q3 q4 p0 p1 p2 p3 p4 m0 m1
                have hB2 : Below B w w2 := hbl.trans (hb2.mono (by have := hbl.size; rw [HB.out] at this; omega))
                cases rr
                · go_wp2
                  go_ret
                  exact ⟨ret_bool (by rw [HR3.out]; exact (sameR_no _ _ _ _ _ HU.out HV.out HR2.out).symm), hB2⟩
                · go_wp2
                  go_roundw
                  case rel => exact ⟨k + 1, by omega, by go_num, HF.out.step HU.out HV.out HR2.out, k0.below hb2 k0.lt, k1.below hb2 k1.lt, hB2⟩
                  case measure => simp [intOf]; omega
              · obtain rfl : k = ts.length := by omega
                go_wp2
                go_ret
                exact ⟨ret_bool (by rw [HR3.out]; exact (sameR_of_up _ _ HLE.out fun i x y hx hy => HF.out i x y (List.getElem?_eq_some_iff.1 hx).1 hx hy).symm), hbl⟩
    · have z2 : ((ts.length : Int) != (us.length : Int)) = true := by simp; omega
      have HR : Hid (rs = false) := by show _ = _; rw [HL.out, sameR_len _ _ hle]; simp
      clear HL hty hle
      go_enter Try.func18, Try.ntmps18
      go_upto_region 1 with fail
      rw [HW.out]
      clear HW
      go_wp2
      go_ret
      exact ⟨ret_bool HR.out.symm, bl0⟩
  · have z1 : (ka != kb) = true := by simp [hk]
    have HR : Hid (rs = false) := by show _ = _; rw [HL.out]; simp [hk]
    clear HL hty hk
    go_enter Try.func18, Try.ntmps18
    go_upto_region 1 with fail
    rw [HW.out]
    clear HW
    go_wp2
    go_ret
    exact ⟨ret_bool HR.out.symm, bl0⟩

end Go.Proofs.Ytckagmagjogmnaa

