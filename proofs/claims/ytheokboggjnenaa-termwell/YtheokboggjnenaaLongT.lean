/-
  The contract of term.long: the long form of a head.
-/
import Derived.Test.YtheokboggjnenaaToT
import Derived.Test.YtheokboggjnenaaEachT
import Derived.Test.YtheokboggjnenaaHeadsS
namespace Go.Proofs.Ytheokboggjnenaa
open Go Go.RowKit

/-- long's own word of some types -/
def LongAt (ts : List Ty) : Prop := ∀ (ok : Nat → Prop) (sl : Value) (w : World) (k i : Int), Holds w ok ts sl → sizeL ts ≤ 1000000 → (k = 0 → 0 ≤ i ∧ i ≤ 2000000) →
    Calls Try.prog 87 #[hv k i, sl] w fun e w' => ∃ vb vr, e = .returned (tmv vb k (insI k i ts.length) vr) ∧ Holds w' (fun b => w.heap.size ≤ b) ts vb ∧ HoldsT w' (fun b => w.heap.size ≤ b) (etaL ts) vr ∧ Below w.heap.size w w'

set_option maxRecDepth 100000 in
set_option maxHeartbeats 1000000 in
theorem long_list (ts : List Ty) (ih : ∀ u ∈ ts, LongAt u.args) : LongAt ts := by
  intro ok sl w k i hb hsz hki
  obtain ⟨a, cap, rfl, hcap, hat⟩ := hb.shape
  have HA : Hid _ := hat
  have hln := sizeL_length ts
  have HSZ : Hid (∀ u ∈ ts, sizeL u.args ≤ 1000000) := fun u hu => by have h1 := size_mem hu; have h2 := u.size_eq; omega
  obtain ⟨N, hN⟩ : ∃ N, w.heap.size = N := ⟨_, rfl⟩
  have HN : Hid (w.heap.size = N) := hN
  have hins := fun w => inside_calls k i ts.length (by omega) (fun h => by have := hki h; omega) (fun h => by have := hki h; omega) w
  generalize hx : insI k i ts.length = x at *
  have HE : Hid _ := hx
  rw [hN]
  clear hat hx hki
  obtain ⟨W0, hW0⟩ : ∃ W0, (w.alloc (.cells #[.int .i64 k, .int .i64 i] 31)).alloc (.cells #[.slice none 0 0, .int .i64 0, .int .i64 0, .slice none 0 0] 34) = W0 := ⟨_, rfl⟩
  have b0 : Blk W0 N 31 #[.int .i64 k, .int .i64 i] := by rw [← hW0]; exact (Blk.new' w N 31 _ hN).alloc _
  have b1 : Blk W0 (N + 1) 34 #[.slice none 0 0, .int .i64 0, .int .i64 0, .slice none 0 0] := by rw [← hW0]; exact Blk.new' _ (N + 1) 34 _ (by simp [hN])
  have hz0 : W0.heap.size = N + 2 := by rw [← hW0]; simp [hN]
  have bl0 : Below N w W0 := by rw [← hW0]; exact ((Below.refl N w).alloc (by omega) _).alloc (by simp; omega) _
  have hb0 : Holds W0 ok ts (.slice a ts.length cap) := hb.bel (by rw [hN]; exact bl0)
  have HW : Hid _ := hW0
  clear hW0
  go_enter Try.func87, Try.ntmps87
  go_upto_region 1 with fail
  rw [HW.out]
  clear HW
  go_cut [5] (fun s5 wx => ∃ (R : Nat) (va : Option Addr) (vc : Nat), s5 = .pointer (some ⟨R, 0, none⟩) ∧ N + 2 ≤ R ∧ Blk wx R 34 #[.slice va ts.length vc, .int .i64 k, .int .i64 x, .slice none 0 0] ∧ Holds wx (fun b => N + 2 ≤ b ∧ b ≠ R) ts (.slice va ts.length vc) ∧ Below (N + 2) W0 wx)
  case first =>
    have c0 := b0.cell 0
    have c1 := b0.cell 1
    have hK : ∀ v, Cur W0 v → v.cell? ⟨N, 0, none⟩ = some (.int .i64 k) ∧ v.cell? ⟨N, 1, none⟩ = some (.int .i64 i) := fun v hv => ⟨hv.cell c0, hv.cell c1⟩
    have k111 : ∀ cur, Cur W0 cur → Calls Try.prog 111 #[.slice a ts.length cap, .func (.func 74) #[] #[]] cur fun e w' => ∃ va vc, e = .returned (.slice va ts.length vc) ∧ Holds w' (fun b => cur.heap.size ≤ b) ts (.slice va ts.length vc) ∧ Below cur.heap.size cur w' ∧ Cur W0 w' := fun cur hc =>
      (eachTy_calls ts ok _ cur (hc.holds hb0) hsz).mono fun e w' ⟨v, h1, h2, h3⟩ => by
        obtain ⟨va, vc, rfl, _⟩ := h2.shape
        exact ⟨va, vc, h1, h2, h3, hc.then h3⟩
    have k115 : ∀ cur, Cur W0 cur → Calls Try.prog 115 #[hv k i, .int .i64 (ts.length : Int)] cur fun e w' => e = .returned (hv k x) ∧ Below cur.heap.size cur w' ∧ Cur W0 w' := fun cur hc =>
      (hins cur).mono fun e w' ⟨h1, h3⟩ => ⟨h1, h3, hc.then h3⟩
    have hZ : Blk (W0.alloc (.cells #[.slice none 0 0, .int .i64 0, .int .i64 0, .slice none 0 0] 34)).drew (N + 2) 34 #[.slice none 0 0, .int .i64 0, .int .i64 0, .slice none 0 0] := Blk.new' W0 (N + 2) 34 _ hz0
    have hzz : W0.heap.size ≤ N + 2 := by omega
    have hcur := Cur.refl W0
    clear hins
    go_region_held3 (fun v => v.cell? ⟨N, 0, none⟩ = some (.int .i64 k) ∧ v.cell? ⟨N, 1, none⟩ = some (.int .i64 i))
      (first | with_reducible exact hK _ (by first | with_reducible assumption | (with_reducible refine Cur.drew ?_; assumption) | (with_reducible refine Cur.alloc ?_ _; assumption) | (with_reducible refine Cur.drew (Cur.alloc ?_ _); assumption) | (with_reducible refine Cur.alloc (Cur.drew ?_) _; assumption) | (with_reducible refine Cur.set (Cur.set (Cur.set (Cur.set ?_ hzz _ _) hzz _ _) hzz _ _) hzz _ _; assumption) | (with_reducible refine Cur.set (Cur.set (Cur.set (Cur.set ?_ hzy _ _) hzy _ _) hzy _ _) hzy _ _; assumption)))
      (first
        | (go_at_call 111; refine (k111 _ (by first | with_reducible assumption | (with_reducible refine Cur.drew ?_; assumption) | (with_reducible refine Cur.alloc ?_ _; assumption) | (with_reducible refine Cur.drew (Cur.alloc ?_ _); assumption) | (with_reducible refine Cur.alloc (Cur.drew ?_) _; assumption) | (with_reducible refine Cur.set (Cur.set (Cur.set (Cur.set ?_ hzz _ _) hzz _ _) hzz _ _) hzz _ _; assumption) | (with_reducible refine Cur.set (Cur.set (Cur.set (Cur.set ?_ hzy _ _) hzy _ _) hzy _ _) hzy _ _; assumption))).mono ?_; rintro e y1 ⟨va, vc, rfl, hv1, hb1, hc1⟩; have hzy : W0.heap.size ≤ y1.heap.size := Below.size hc1; have hY := Blk.new y1 34 #[.slice none 0 0, .int .i64 0, .int .i64 0, .slice none 0 0]; try (with_reducible have bA := hZ.below hb1 hZ.lt))
        | (go_at_call 115; refine (k115 _ (by first | with_reducible assumption | (with_reducible refine Cur.drew ?_; assumption) | (with_reducible refine Cur.alloc ?_ _; assumption) | (with_reducible refine Cur.drew (Cur.alloc ?_ _); assumption) | (with_reducible refine Cur.alloc (Cur.drew ?_) _; assumption) | (with_reducible refine Cur.set (Cur.set (Cur.set (Cur.set ?_ hzz _ _) hzz _ _) hzz _ _) hzz _ _; assumption) | (with_reducible refine Cur.set (Cur.set (Cur.set (Cur.set ?_ hzy _ _) hzy _ _) hzy _ _) hzy _ _; assumption))).mono ?_; rintro e y2 ⟨rfl, hb2, hc2⟩; try (first | (with_reducible have bR := bA.below hb2 bA.lt) | (with_reducible have bR := hY.below hb2 hY.lt)); try (have r0 := bR.cell 0; have r1 := bR.cell 1; have r2 := bR.cell 2; have r3 := bR.cell 3; have g0 := bR.frozen 0; have g1 := bR.frozen 1; have g2 := bR.frozen 2; have g3 := bR.frozen 3)))
    · have hs3 := Below.size hc1
      have hs5 := Below.size hb2
      have hs4 : W0.drew.heap.size = N + 2 := hz0
      go_wp2_with fail
      go_meet
      refine ⟨y2.heap.size, va, vc, rfl, by omega, Blk.new y2 34 _, ((hv1.bel hb2).mono fun b h1 h2 => ⟨by omega, by omega⟩).alloc _, ?_⟩
      have h9 := hc2.alloc (.cells #[.slice va ts.length vc, .int .i64 k, .int .i64 x, .slice none 0 0] 34)
      unfold Cur at h9
      rwa [hz0] at h9
    · have hs3 := Below.size hc1
      have hs4 : W0.drew.heap.size = N + 2 := hz0
      have hv1' : Holds y1 (fun b => N + 2 ≤ b ∧ b < y1.heap.size) ts (.slice va ts.length vc) := hv1.mono fun b h1 h2 => ⟨by omega, h1⟩
      have hv2 := (hv1'.alloc (.cells #[.slice none 0 0, .int .i64 0, .int .i64 0, .slice none 0 0] 34)).bel hb2
      go_wp2_with fail
      go_meet
      refine ⟨y1.heap.size, va, vc, rfl, by omega, (((bR.set 0 (.slice va ts.length vc)).set 1 (.int .i64 k)).set 2 (.int .i64 x)).set 3 (.slice none 0 0), holds_set4 hv2 (fun b h1 h2 => ⟨by omega, by omega, by omega⟩) _ _ _ _, ?_⟩
      have h9 := (((hc2.set hzy 0 (.slice va ts.length vc)).set hzy 1 (.int .i64 k)).set hzy 2 (.int .i64 x)).set hzy 3 (.slice none 0 0)
      unfold Cur at h9
      rwa [hz0] at h9
    · have hs4 : (W0.alloc (.cells #[.slice none 0 0, .int .i64 0, .int .i64 0, .slice none 0 0] 34)).drew.heap.size = N + 3 := by show (W0.alloc _).heap.size = _; simp [hz0]
      have hv2 := hv1.bel hb2
      go_wp2_with fail
      go_meet
      refine ⟨N + 2, va, vc, rfl, Nat.le_refl _, (((bR.set 0 (.slice va ts.length vc)).set 1 (.int .i64 k)).set 2 (.int .i64 x)).set 3 (.slice none 0 0), holds_set4 hv2 (fun b h1 h2 => ⟨by omega, by omega, by omega⟩) _ _ _ _, ?_⟩
      have h9 := (((hc2.set hzz 0 (.slice va ts.length vc)).set hzz 1 (.int .i64 k)).set hzz 2 (.int .i64 x)).set hzz 3 (.slice none 0 0)
      unfold Cur at h9
      rwa [hz0] at h9
  case rest =>
  obtain ⟨R, va, vc, rfl, hR, bR, hvb, hbc⟩ := hcut
  have b1c := b1.below hbc (by omega)
  have blc : Below N w wc := bl0.trans (hbc.mono (by omega))
  obtain ⟨M, hM⟩ : ∃ M, wc.heap.size = M := ⟨_, rfl⟩
  have hRM : R < M := by rw [← hM]; exact bR.lt
  have hvb2 : Holds wc (fun b => N + 2 ≤ b ∧ b ≠ R ∧ b < M) ts (.slice va ts.length vc) := hvb.mono fun b h1 h2 => ⟨by omega, h2.2, by omega⟩
  have HIH : Hid (∀ u ∈ ts, LongAt u.args) := ih
  obtain ⟨i0, hi, hz0', hz1, hz2⟩ := info_parts info34
  have hl2 : ts.length ≤ 1000000 := by omega
  clear b0 b1 bl0 hbc hvb hb0 hz0 ih hb hins hsz hln
  go_wp2_with fail
  go_loopw [17] (fun i wr => ∃ (j : Nat) (vk : Value) (ps : List Tc), j ≤ ts.length ∧ i = .int .i64 j ∧ Hid (ps.map (·.t) = (etaL ts).take j) ∧ Blk wr (N + 1) 34 #[.slice none 0 0, .int .i64 0, .int .i64 0, .slice none 0 0] ∧ Blk wr R 34 #[.slice va ts.length vc, .int .i64 k, .int .i64 x, vk] ∧ M ≤ wr.heap.size ∧ MkT wr M 34 vk ps ∧ Holds wr (fun b => N + 2 ≤ b ∧ b ≠ R ∧ b < M) ts (.slice va ts.length vc) ∧ Below N w wr)
    (fun i _ => ts.length - (intOf i).toNat)
  case atStart => exact ⟨0, _, [], Nat.zero_le _, rfl, rfl, b1c, bR, (by omega), MkT.nil _ _ _, hvb2, blc⟩
  case round =>
    clear b1c bR hvb2 blc hM
    obtain ⟨j, vk, ps, hj, rfl, HP, hb1, hb2, hMw, hmk, hvb, hbl⟩ := hrel
    have hpl : ps.length = j := by have := congrArg List.length HP.out; simp [etaL_length] at this; omega
    by_cases hlt : j < ts.length
    · subst hpl
      obtain ⟨j, hjj⟩ : ∃ j, ps.length = j := ⟨_, rfl⟩
      rw [hjj] at hlt hj HP ⊢
      have HKK : Hid (ps.length = j) := hjj
      clear hjj
      obtain ⟨u, hu⟩ : ∃ u, ts[j]? = some u := ⟨_, List.getElem?_eq_getElem hlt⟩
      obtain ⟨g, o, s, rfl, _, hg, a0, a1, hs⟩ := HA.out j u hu
      rw [HN.out] at hg
      have q0 := (cat hbl hg).trans a0
      have q1 := (cat hbl hg).trans a1
      have hm := List.mem_of_getElem? hu
      have y1 : (0 : Int) ≤ (j : Int) := by omega
      have y2 : (j : Int) < (ts.length : Int) := by omega
      obtain ⟨v, hve⟩ : ∃ v, etaK 0 ((ts.length : Int) - 1 - j) u.args = v := ⟨_, rfl⟩
      have hvk : Hid (v.kind = 0) := by show _ = _; rw [← hve, etaK_kind]
      have hvi : Hid (v.idx = insI 0 ((ts.length : Int) - 1 - j) u.args.length) := by show _ = _; rw [← hve, etaK_idx]
      have hvbn : Hid (v.binds = u.args) := by show _ = _; rw [← hve, etaK_binds]
      have hva : Hid (v.args = etaL u.args) := by show _ = _; rw [← hve, etaK_args]
      have HP2 : Hid (ps.map (·.t) ++ [v] = (etaL ts).take (j + 1)) := by show _ = _; rw [HP.out, etaL_take ts j u hu, hve]
      have hs2 : Holds wr ok u.args s := hs.bel (by rw [HN.out]; exact hbl)
      have HL : Hid (∀ b, vk.ownBlock = some b → b < wr.heap.size) := fun b hb => (hmk.lt b hb).2
      have hnR : vk.ownBlock ≠ some R := fun e => by have := (hmk.lt R e).1; omega
      have hn1 : vk.ownBlock ≠ some (N + 1) := fun e => by have := (hmk.lt (N + 1) e).1; omega
      obtain ⟨s1, s2, rfl, _⟩ := hs.shape
      generalize hsn : u.args.length = sn at *
      obtain ⟨X, hX⟩ : ∃ X, wr.heap.size = X := ⟨_, rfl⟩
      obtain ⟨wx, hwx⟩ : ∃ wx, wr.alloc (.cells #[.slice s1 sn s2, .int .i64 u.base] 63) = wx := ⟨_, rfl⟩
      have bx : Blk wx X 63 #[.slice s1 sn s2, .int .i64 u.base] := by rw [← hwx]; exact Blk.new' wr X 63 _ hX
      have hbx : Below wr.heap.size wr wx := by rw [← hwx]; exact (Below.refl _ _).alloc (Nat.le_refl _) _
      have hsx := hs2.bel hbx
      have hb1x := hb1.below hbx hb1.lt
      have hb2x := hb2.below hbx hb2.lt
      have hmkx := hmk.bel hbx
      have hvbx := hvb.bel hbx
      have hblx : Below N w wx := hbl.trans (hbx.mono (by have := hbl.size; omega))
      have hMx : M ≤ wx.heap.size := Nat.le_trans hMw hbx.size
      have hXx : X < wx.heap.size := bx.lt
      have hRx : R < wx.heap.size := hb2x.lt
      have k116 : ∀ cur, Cur wx.drew cur → Calls Try.prog 116 #[.int .i64 j, .slice (some ⟨g, o, none⟩) ts.length cap] cur fun e w' => e = .returned (hv 0 ((ts.length : Int) - 1 - j)) ∧ Cur wx.drew w' := fun cur hc =>
        (variable_calls j ts.length _ cap hlt hl2 cur).mono fun e w' ⟨h1, h2⟩ => ⟨h1, hc.then h2⟩
      have k87 : ∀ cur, Cur wx.drew cur → Calls Try.prog 87 #[hv 0 ((ts.length : Int) - 1 - j), .slice s1 sn s2] cur fun e w' => ∃ e1 en e2 e3 em e4, e = .returned (tmv (.slice e1 en e2) v.kind v.idx (.slice e3 em e4)) ∧ Holds w' (fun b => cur.heap.size ≤ b) v.binds (.slice e1 en e2) ∧ HoldsT w' (fun b => cur.heap.size ≤ b) v.args (.slice e3 em e4) ∧ Below wx.drew.heap.size wx.drew w' ∧ wx.heap.size ≤ cur.heap.size := fun cur hc =>
        (HIH.out u hm ok _ cur 0 ((ts.length : Int) - 1 - j) (hc.holds hsx.drew) (HSZ.out u hm) (fun _ => by omega)).mono fun e w' ⟨vb, vr, h1, h2, h3, h4⟩ => by
          obtain ⟨e1, e2, rfl, _⟩ := h2.shape
          obtain ⟨e3, e4, rfl, _⟩ := h3.shape
          refine ⟨e1, _, e2, e3, _, e4, ?_, by rw [hvbn.out]; exact h2, by rw [hva.out]; exact h3, hc.then h4, (show wx.drew.heap.size ≤ _ from Below.size hc)⟩
          rw [h1, hvk.out, hvi.out, hsn]
      have t0 := hb2x.cell 3
      have w0 := bx.cell 0
      have HWX : Hid _ := hwx
      clear a0 a1 hu hs HP hs2 hve hwx hmk hb1 hb2 hvb hbl hbx hsx hsn
      go_upto_region 5 with fail
      rw [HWX.out]
      clear HWX
      have hcx := Cur.refl wx.drew
      have td0 : wx.drew.cell? ⟨R, 3, none⟩ = _ := t0
      have wd0 : wx.drew.cell? ⟨X, 0, none⟩ = _ := w0
      have hnX : vk.ownBlock ≠ some X := fun e => by have := HL.out X e; omega
      go_region_law (first
          | (refine step_append_lies _ rfl _ _ 32 rfl M 34 i0 _ 4 64 Try.underlying32 hi hz0' hz1 hz2 rfl (by decide) _ j (tcells ps) rfl (by have := hmk2.row.alloc (.cells #[.slice e1 en e2, .int .i64 v.kind, .int .i64 v.idx, .slice e3 em e4] 34); rwa [HKK.out] at this) ⟨w2.heap.size, 0, none⟩ 1 1 [.slice e1 en e2, .int .i64 v.kind, .int .i64 v.idx, .slice e3 em e4] rfl rfl (cell_four_new _ _ _ _ _ _) (by simp [Value.oneCell']) (by omega) (by unfold maxLen; omega) (by omega) (by simp; omega) _ rfl ?_; intro g2 cap2 w3 hown3 hgrow3 hat3 hlt3; have hap := appended hgrow3 hb2x hbb hnR; have p3 := hap.cell 3; have pf := fun j => hap.frozen j)
          | (go_simp; go_at_call 116; refine (k116 _ hcx).mono ?_; rintro e w1 ⟨rfl, hc1⟩; have z1 := hc1.cell td0; have z2 := hc1.cell wd0)
          | (go_simp; go_at_call 87; refine (k87 _ hc1).mono ?_; rintro e w2 ⟨e1, en, e2, e3, em, e4, rfl, hvb2, hvr2, hbb, hsz1⟩; have hbb0 : Below wx.heap.size wx w2 := (Below.refl _ wx).drew.trans hbb; have z3 := (hbb0.cell (p := ⟨R, 3, none⟩) hRx).trans t0; have hmk2 := hmkx.bel hbb0; have hwz : wx.heap.size ≤ w2.heap.size := hbb0.size; have z3a := cell_alloc_old hbb hRx t0))
      all_goals
        have hB2 : Below N w w2 := hblx.trans (hbb0.mono (by have := hblx.size; omega))
        have hB3 : Below N w w3 := (hB2.alloc (by omega) _).grown hgrow3 (by simp; omega) (fun j hj => by have := (hmk2.lt j hj).1; omega)
        have hmk3 := (hmk2.alloc (.cells #[.slice e1 en e2, .int .i64 v.kind, .int .i64 v.idx, .slice e3 em e4] 34)).snoc (cap := cap2) (x := ⟨.slice e1 en e2, .slice e3 em e4, v⟩) (L := wx.heap.size) HKK.out ((hvb2.mono fun b _ h => Nat.le_trans hsz1 h).alloc _) ((hvr2.mono fun b _ h => Nat.le_trans hsz1 h).alloc _) hMx (fun b hb => Nat.lt_of_lt_of_le (HL.out b hb) (by omega)) hgrow3 hat3 hown3
        have e0 := (appended hgrow3 hb1x hbb hn1).other (B' := R) (by omega) 3 (.slice (some ⟨g2, 0, none⟩) (j + 1) cap2)
        have e9 := hap.set 3 (.slice (some ⟨g2, 0, none⟩) (j + 1) cap2)
        have hmk4 := hmk3.set (R := R) (by omega) 3 (.slice (some ⟨g2, 0, none⟩) (j + 1) cap2)
        have hB4 : Below N w (w3.setCell ⟨R, 3, none⟩ (.slice (some ⟨g2, 0, none⟩) (j + 1) cap2)) := bset hB3 (by omega) _
        have hvb4 : Holds (w3.setCell ⟨R, 3, none⟩ (.slice (some ⟨g2, 0, none⟩) (j + 1) cap2)) (fun b => N + 2 ≤ b ∧ b ≠ R ∧ b < M) ts (.slice va ts.length vc) := by
          have h5 := (hvbx.bel hbb0).alloc (.cells #[.slice e1 en e2, .int .i64 v.kind, .int .i64 v.idx, .slice e3 em e4] 34)
          refine h5.keep fun b hb ho => ⟨?_, ho⟩
          have h6 : vk.ownBlock ≠ some b := fun e => by have := (hmk2.lt b e).1; omega
          exact (Below.heap_setCell w3 ⟨R, 3, none⟩ _ b ho.2.1).trans (hgrow3.block b hb (fun e => h6 e.symm))
        have hM4 : M ≤ (w3.setCell ⟨R, 3, none⟩ (.slice (some ⟨g2, 0, none⟩) (j + 1) cap2)).heap.size := by have := hmk4.lt g2 rfl; omega
        clear hown3 hgrow3 hat3 hlt3 hB2 hB3 hmk2 hmk3 z3a z3 hbb p3 pf hap hvbx hbb0
        generalize w3.setCell ⟨R, 3, none⟩ (.slice (some ⟨g2, 0, none⟩) (j + 1) cap2) = W4 at *
        go_wp2
        exact ⟨⟨j + 1, .slice (some ⟨g2, 0, none⟩) (j + 1) cap2, ps ++ [⟨.slice e1 en e2, .slice e3 em e4, v⟩], by omega, by go_num, by show _ = _; rw [List.map_append]; exact HP2.out, e0, e9, hM4, hmk4, hvb4, hB4⟩, by simp [intOf]; omega⟩
    · obtain rfl : j = ts.length := by omega
      have t0 := hb2.cell 3
      have x0 := hb2.cell 0
      have x1 := hb2.cell 1
      have x2 := hb2.cell 2
      have s0 := hb1.cell 0
      have s1 := hb1.cell 1
      have s2 := hb1.cell 2
      have s3 := hb1.cell 3
      have f0 := hb1.frozen 0
      have f1 := hb1.frozen 1
      have f2 := hb1.frozen 2
      have f3 := hb1.frozen 3
      have HP3 : Hid (ps.map (·.t) = etaL ts) := by show _ = _; rw [HP.out, ← etaL_length ts, List.take_length]
      have hh4 := hmk.holds
      obtain ⟨ra, rc, rfl, _⟩ := hh4.shape
      generalize (ps.map (·.t)).length = rn at *
      have c0 := (((hb1.set 0 (.slice va ts.length vc)).set 1 (.int .i64 k)).set 2 (.int .i64 x)).set 3 (.slice ra rn rc)
      have hh5 : HoldsT ((((wr.setCell ⟨N + 1, 0, none⟩ (.slice va ts.length vc)).setCell ⟨N + 1, 1, none⟩ (.int .i64 k)).setCell ⟨N + 1, 2, none⟩ (.int .i64 x)).setCell ⟨N + 1, 3, none⟩ (.slice ra rn rc)) (fun b => N ≤ b) (etaL ts) (.slice ra rn rc) := by
        have h := ((((hmk.set (R := N + 1) (by omega) 0 (.slice va ts.length vc)).set (R := N + 1) (by omega) 1 (.int .i64 k)).set (R := N + 1) (by omega) 2 (.int .i64 x)).set (R := N + 1) (by omega) 3 (.slice ra rn rc)).holds
        rw [HP3.out] at h
        exact h.mono fun b _ hb => by omega
      have hh6 : Holds ((((wr.setCell ⟨N + 1, 0, none⟩ (.slice va ts.length vc)).setCell ⟨N + 1, 1, none⟩ (.int .i64 k)).setCell ⟨N + 1, 2, none⟩ (.int .i64 x)).setCell ⟨N + 1, 3, none⟩ (.slice ra rn rc)) (fun b => N ≤ b) ts (.slice va ts.length vc) := holds_set4 hvb (fun b _ h => ⟨by omega, by omega⟩) _ _ _ _
      have hB5 : Below N w ((((wr.setCell ⟨N + 1, 0, none⟩ (.slice va ts.length vc)).setCell ⟨N + 1, 1, none⟩ (.int .i64 k)).setCell ⟨N + 1, 2, none⟩ (.int .i64 x)).setCell ⟨N + 1, 3, none⟩ (.slice ra rn rc)) := bset (bset (bset (bset hbl (by omega) _) (by omega) _) (by omega) _) (by omega) _
      clear hmk hpl
      go_wp2
      generalize (((wr.setCell ⟨N + 1, 0, none⟩ (.slice va ts.length vc)).setCell ⟨N + 1, 1, none⟩ (.int .i64 k)).setCell ⟨N + 1, 2, none⟩ (.int .i64 x)).setCell ⟨N + 1, 3, none⟩ (.slice ra rn rc) = W5 at *
      have d0 : W5.cell? ⟨N + 1, 0, none⟩ = some (.slice va ts.length vc) := c0.cell 0
      have d1 : W5.cell? ⟨N + 1, 1, none⟩ = some (.int .i64 k) := c0.cell 1
      have d2 : W5.cell? ⟨N + 1, 2, none⟩ = some (.int .i64 x) := c0.cell 2
      have d3 : W5.cell? ⟨N + 1, 3, none⟩ = some (.slice ra rn rc) := c0.cell 3
      exact bodyPost_ret (v := tmv (.slice va ts.length vc) k x (.slice ra rn rc)) (by simp [results, Try.results87, go_sem, d0, d1, d2, d3]) rfl ⟨_, _, rfl, hh6, hh5, hB5⟩

theorem long_calls (ts : List Ty) : LongAt ts := by
  have h : ∀ t : Ty, LongAt t.args := fun t => by
    induction t using Ty.ind with
    | h t ih => exact long_list t.args ih
  exact h (.mk ts 0)

end Go.Proofs.Ytheokboggjnenaa
