/-
  The contract of the document's From: a term as a raw one.
-/
import Derived.Test.YtckagmagjogmnaaFromT
import Derived.Deep.RegionLaw
namespace Go.Proofs.Ytckagmagjogmnaa
open Go Go.RowKit

/-- A raw term of the document's in a box of its own, its parts in blocks that okp lets by. -/
structure BxO (w : World) (R : Nat) (okp : Nat → Prop) (v : Rw) : Prop where
  ex : ∃ x1 n1 x2 x3 n2 x4, Blk w R 27 #[.int .i64 v.kind, .slice x1 n1 x2, .int .i64 v.ty.base, .int .i64 v.idx, .slice x3 n2 x4] ∧ Holds w (fun b => okp b ∧ b ≠ R) v.ty.args (.slice x1 n1 x2) ∧ HoldsR w (fun b => okp b ∧ b ≠ R) v.kids (.slice x3 n2 x4)

set_option maxRecDepth 100000 in
set_option maxHeartbeats 3200000 in
theorem refFrom_calls (t : Tm) : ∀ (ok : Nat → Prop) (sb sr : Value) (w : World), Holds w ok t.binds sb → HoldsT w ok t.args sr → t.total ≤ 1000000 →
    Calls Try.prog 35 #[tmv sb t.kind t.idx sr] w fun e w' => ∃ vb vr, e = .returned (rwv t.raw.kind vb t.raw.ty.base t.raw.idx vr) ∧ Holds w' (fun b => ok b ∨ w.heap.size ≤ b) t.raw.ty.args vb ∧ HoldsR w' (fun b => ok b ∨ w.heap.size ≤ b) t.raw.kids vr ∧ Below w.heap.size w w' := by
  induction t using Tm.ind with
  | h t ih =>
  intro ok sb sr w hb hr htot
  have hraw := t.raw_eq
  have hte := t.total_eq
  obtain ⟨x1, x2, hx, _⟩ := hb.shape
  obtain ⟨x3, x4, hx', _⟩ := hr.shape
  obtain ⟨N, hN⟩ : ∃ N, w.heap.size = N := ⟨_, rfl⟩
  have hb' : Holds w (fun b => b < N ∧ ok b) t.binds sb := hb.mono fun b h ho => ⟨by omega, ho⟩
  have hr' : HoldsT w (fun b => b < N ∧ ok b) t.args sr := hr.mono fun b h ho => ⟨by omega, ho⟩
  obtain ⟨ts, hts⟩ : ∃ l, t.args = l := ⟨_, rfl⟩
  obtain ⟨bd, hbd⟩ : ∃ l, t.binds = l := ⟨_, rfl⟩
  rw [hts] at hr' ih hraw hte hx'
  rw [hbd] at hb' hraw hte hx
  subst hx hx'
  obtain ⟨kk, hkk⟩ : ∃ k, t.kind = k := ⟨_, rfl⟩
  obtain ⟨ii, hii⟩ : ∃ k, t.idx = k := ⟨_, rfl⟩
  obtain ⟨q, hq⟩ : ∃ q, t.raw = q := ⟨_, rfl⟩
  rw [hq, hkk, hii] at hraw
  rw [hq, hkk, hii]
  have HQ : Hid (q = lamsR (appsR (hdR kk ii) (rawT ts)) bd) := hraw
  have HIH : Hid _ := ih
  have hTL : ts.length ≤ 1000000 := by have := totalT_length ts; omega
  have hBL : bd.length ≤ 1000000 := by have := sizeL_length bd; omega
  have HTT : Hid (totalT ts ≤ 1000000 ∧ sizeL bd ≤ 1000000) := ⟨by omega, by omega⟩
  obtain ⟨W0, hW0⟩ : ∃ W0, (w.alloc (.cells #[.slice x1 bd.length x2, .int .i64 kk, .int .i64 ii, .slice x3 ts.length x4] 71)).alloc (.cells #[.int .i64 0, .slice none 0 0, .int .i64 0, .int .i64 0, .slice none 0 0] 27) = W0 := ⟨_, rfl⟩
  have b0 : Blk W0 N 71 #[.slice x1 bd.length x2, .int .i64 kk, .int .i64 ii, .slice x3 ts.length x4] := by rw [← hW0]; exact (Blk.new' w N 71 _ hN).alloc _
  have b1 : Blk W0 (N + 1) 27 #[.int .i64 0, .slice none 0 0, .int .i64 0, .int .i64 0, .slice none 0 0] := by rw [← hW0]; exact Blk.new' _ (N + 1) 27 _ (by simp [hN])
  have bl : Below N w W0 := by rw [← hW0]; exact ((Below.refl N w).alloc (by omega) _).alloc (by simp; omega) _
  have c1 := b0.cell 1
  have c2 := b0.cell 2
  have hz : W0.heap.size = N + 2 := by rw [← hW0]; simp [hN]
  have HW : Hid _ := hW0
  have HN : Hid (w.heap.size = N) := hN
  obtain ⟨R, hR⟩ : ∃ R, N + 2 = R := ⟨_, rfl⟩
  have hRN : N + 2 ≤ R := by omega
  obtain ⟨W2, hW2⟩ : ∃ W2, W0.alloc (.cells #[.int .i64 kk, .slice none 0 0, .int .i64 0, .int .i64 ii, .slice none 0 0] 27) = W2 := ⟨_, rfl⟩
  have hI0 : BxO W2 R (fun b => (b < N ∧ ok b) ∨ N + 2 ≤ b) (appsR (hdR kk ii) (rawT (ts.take 0))) := by
    rw [← hW2]
    exact ⟨none, 0, 0, none, 0, 0, Blk.new' W0 R 27 _ (by omega), Holds.nil _ _ _ _ (fun _ => rfl), HoldsR.nil _ _ _ _ (fun _ => rfl)⟩
  have m0 : Blk W2 N 71 #[.slice x1 bd.length x2, .int .i64 kk, .int .i64 ii, .slice x3 ts.length x4] := by rw [← hW2]; exact b0.alloc _
  have m1 : Blk W2 (N + 1) 27 #[.int .i64 0, .slice none 0 0, .int .i64 0, .int .i64 0, .slice none 0 0] := by rw [← hW2]; exact b1.alloc _
  have B2 : Below N w W2 := by rw [← hW2]; exact bl.alloc (by omega) _
  have HW2 : Hid _ := hW2
  have hz' : W0.heap.size = R := by omega
  clear hW0 hb hr hraw ih htot hte hts hbd hkk hii hq hW2 b0 b1 hz bl
  go_enter Try.func35, Try.ntmps35
  go_upto_region 1 with fail
  rw [HW.out]
  clear HW
  go_upto_region 2 with fail
  rw [HW2.out]
  clear HW2 c1 c2 hz' hN
  go_wp2_with fail
  go_loopw [4] (fun i wr => ∃ k : Nat, k ≤ ts.length ∧ i = .int .i64 k ∧ BxO wr R (fun b => (b < N ∧ ok b) ∨ N + 2 ≤ b) (appsR (hdR kk ii) (rawT (ts.take k))) ∧ Blk wr N 71 #[.slice x1 bd.length x2, .int .i64 kk, .int .i64 ii, .slice x3 ts.length x4] ∧ Blk wr (N + 1) 27 #[.int .i64 0, .slice none 0 0, .int .i64 0, .int .i64 0, .slice none 0 0] ∧ Below N w wr) (fun i _ => ts.length - (intOf i).toNat)
  case atStart => exact ⟨0, Nat.zero_le _, rfl, hI0, m0, m1, B2⟩
  case round =>
    clear hI0 m0 m1 B2
    obtain ⟨k, hk, rfl, hbx, hT, h1, hbl⟩ := hrel
    have hNw : N ≤ wr.heap.size := by have := hT.lt; omega
    have gT := hT.cell 3
    by_cases hlt : k < ts.length
    · obtain ⟨k1, l1, k2, k3, l2, k4, h0, hv, hr⟩ := hbx.ex
      obtain ⟨u, hu⟩ : ∃ u, ts[k]? = some u := ⟨_, List.getElem?_eq_getElem hlt⟩
      have htw : HoldsT wr (fun b => b < N ∧ ok b) ts (.slice x3 ts.length x4) := hr'.keep fun b _ h => ⟨hbl.block b h.1, h⟩
      obtain ⟨a9, c9, e9, _, hat⟩ := htw.shape
      cases e9
      obtain ⟨g, o, s, r, rfl, hgN, hg, a0, a1, a2, a3, hs, hsr⟩ := hat k u hu
      obtain ⟨sa, sc, rfl, _⟩ := hs.shape
      obtain ⟨sd, se, rfl, _⟩ := hsr.shape
      obtain ⟨n3, hn3⟩ : ∃ n, u.binds.length = n := ⟨_, rfl⟩
      obtain ⟨n4, hn4⟩ : ∃ n, u.args.length = n := ⟨_, rfl⟩
      rw [hn3] at hs a0
      rw [hn4] at hsr a3
      have hm := List.mem_of_getElem? hu
      have HAP : Hid (appsR (hdR kk ii) (rawT (ts.take (k + 1))) = appR (appsR (hdR kk ii) (rawT (ts.take k))) u.raw) := apps_take hu
      have y1' : (0 : Int) ≤ (k : Int) := by omega
      have y2' : (k : Int) < (ts.length : Int) := by omega
      have hut := ttotal_mem hm
      have hIu := HIH.out u hm
      generalize appsR (hdR kk ii) (rawT (ts.take k)) = v at *
      obtain ⟨uq, huq⟩ : ∃ uq, u.raw = uq := ⟨_, rfl⟩
      rw [huq] at hIu HAP
      have hlR := h0.lt
      have gN := hgN.1
      have k35 : ∀ cur, Cur wr cur → Calls Try.prog 35 #[tmv (.slice sa n3 sc) u.kind u.idx (.slice sd n4 se)] cur fun e w' => ∃ s1 j1 s2 s3 j2 s4, e = .returned (rwv uq.kind (.slice s1 j1 s2) uq.ty.base uq.idx (.slice s3 j2 s4)) ∧ Holds w' (fun b => ((b < N ∧ ok b) ∨ N + 2 ≤ b) ∧ b ≠ R) uq.ty.args (.slice s1 j1 s2) ∧ HoldsR w' (fun b => ((b < N ∧ ok b) ∨ N + 2 ≤ b) ∧ b ≠ R) uq.kids (.slice s3 j2 s4) ∧ Cur wr w' := fun cur hc => by
        refine (hIu (fun b => b < N ∧ ok b) _ _ cur (hc.holds hs) (hsr.bel hc) (by have := HTT.out.1; omega)).mono fun e w' ⟨vb, vr, he, h5, h6, h7⟩ => ?_
        obtain ⟨s1, s2, rfl, _⟩ := h5.shape
        obtain ⟨s3, s4, rfl, _⟩ := h6.shape
        have hsz := Below.size hc
        exact ⟨s1, _, s2, s3, _, s4, he, h5.mono fun b _ h => ⟨h.imp id (fun h => by omega), by rcases h with h | h <;> omega⟩, h6.mono fun b _ h => ⟨h.imp id (fun h => by omega), by rcases h with h | h <;> omega⟩, hc.then h7⟩
      have p0 := h0.cell 0
      have p1 := h0.cell 1
      have p2 := h0.cell 2
      have p3 := h0.cell 3
      have p4 := h0.cell 4
      have hcur := Cur.refl wr
      clear hat hu htw hn3 hn4 hIu hbx
      go_upto_region 5 with fail
      go_region_with (go_at_call 35; refine (k35 _ (by first | with_reducible assumption | (with_reducible refine Cur.drew ?_; assumption))).mono ?_; rintro e y7 ⟨s1, j1, s2, s3, j2, s4, rfl, hv7, hr7, hc7⟩; have t0 := hc7.cell p0; have t1 := hc7.cell p1; have t2 := hc7.cell p2; have t3 := hc7.cell p3; have t4 := hc7.cell p4; have tT := hc7.cell gT; have u0 := hc7.cell a0; have u1 := hc7.cell a1; have u2 := hc7.cell a2; have u3 := hc7.cell a3; have m9 := (h0.below (show Below wr.heap.size wr y7 from hc7) h0.lt).alloc (.cells #[.int .i64 v.kind, .slice k1 l1 k2, .int .i64 v.ty.base, .int .i64 v.idx, .slice k3 l2 k4, .int .i64 uq.kind, .slice s1 j1 s2, .int .i64 uq.ty.base, .int .i64 uq.idx, .slice s3 j2 s4] 27); have g0 := m9.cell 0; have g1 := m9.cell 1; have g2 := m9.cell 2; have g3 := m9.cell 3; have g4 := m9.cell 4; have f0 := m9.frozen 0; have f1 := m9.frozen 1; have f2 := m9.frozen 2; have f3 := m9.frozen 3; have f4 := m9.frozen 4)
      all_goals
        have w9 : Below wr.heap.size wr y7 := hc7
        have wA : Below wr.heap.size wr (y7.alloc (.cells #[.int .i64 v.kind, .slice k1 l1 k2, .int .i64 v.ty.base, .int .i64 v.idx, .slice k3 l2 k4, .int .i64 uq.kind, .slice s1 j1 s2, .int .i64 uq.ty.base, .int .i64 uq.idx, .slice s3 j2 s4] 27)) := w9.alloc w9.size _
        have hszy := w9.size
        have hv9 := (hv.bel w9).alloc (.cells #[.int .i64 v.kind, .slice k1 l1 k2, .int .i64 v.ty.base, .int .i64 v.idx, .slice k3 l2 k4, .int .i64 uq.kind, .slice s1 j1 s2, .int .i64 uq.ty.base, .int .i64 uq.idx, .slice s3 j2 s4] 27)
        have hr9 := (hr.bel w9).alloc (.cells #[.int .i64 v.kind, .slice k1 l1 k2, .int .i64 v.ty.base, .int .i64 v.idx, .slice k3 l2 k4, .int .i64 uq.kind, .slice s1 j1 s2, .int .i64 uq.ty.base, .int .i64 uq.idx, .slice s3 j2 s4] 27)
        have hV7 := hv7.alloc (.cells #[.int .i64 v.kind, .slice k1 l1 k2, .int .i64 v.ty.base, .int .i64 v.idx, .slice k3 l2 k4, .int .i64 uq.kind, .slice s1 j1 s2, .int .i64 uq.ty.base, .int .i64 uq.idx, .slice s3 j2 s4] 27)
        have hR7 := hr7.alloc (.cells #[.int .i64 v.kind, .slice k1 l1 k2, .int .i64 v.ty.base, .int .i64 v.idx, .slice k3 l2 k4, .int .i64 uq.kind, .slice s1 j1 s2, .int .i64 uq.ty.base, .int .i64 uq.idx, .slice s3 j2 s4] 27)
        have mX : Blk (y7.alloc (.cells #[.int .i64 v.kind, .slice k1 l1 k2, .int .i64 v.ty.base, .int .i64 v.idx, .slice k3 l2 k4, .int .i64 uq.kind, .slice s1 j1 s2, .int .i64 uq.ty.base, .int .i64 uq.idx, .slice s3 j2 s4] 27)) y7.heap.size 27 #[.int .i64 v.kind, .slice k1 l1 k2, .int .i64 v.ty.base, .int .i64 v.idx, .slice k3 l2 k4, .int .i64 uq.kind, .slice s1 j1 s2, .int .i64 uq.ty.base, .int .i64 uq.idx, .slice s3 j2 s4] := Blk.new y7 27 _
        have a5 := holds_set5 (g := R) (ok' := fun b => ((b < N ∧ ok b) ∨ N + 2 ≤ b) ∧ b ≠ R) hv9 (fun b _ h => ⟨h.2, h⟩) (.int .i64 4) (.slice none 0 0) (.int .i64 0) (.int .i64 0) (.slice (some ⟨y7.heap.size, 0, none⟩) 2 2)
        have b5 := holdsR_set5 (g := R) (ok' := fun b => ((b < N ∧ ok b) ∨ N + 2 ≤ b) ∧ b ≠ R) hr9 (fun b _ h => ⟨h.2, h⟩) (.int .i64 4) (.slice none 0 0) (.int .i64 0) (.int .i64 0) (.slice (some ⟨y7.heap.size, 0, none⟩) 2 2)
        have c5 := holds_set5 (g := R) (ok' := fun b => ((b < N ∧ ok b) ∨ N + 2 ≤ b) ∧ b ≠ R) hV7 (fun b _ h => ⟨h.2, h⟩) (.int .i64 4) (.slice none 0 0) (.int .i64 0) (.int .i64 0) (.slice (some ⟨y7.heap.size, 0, none⟩) 2 2)
        have d5 := holdsR_set5 (g := R) (ok' := fun b => ((b < N ∧ ok b) ∨ N + 2 ≤ b) ∧ b ≠ R) hR7 (fun b _ h => ⟨h.2, h⟩) (.int .i64 4) (.slice none 0 0) (.int .i64 0) (.int .i64 0) (.slice (some ⟨y7.heap.size, 0, none⟩) 2 2)
        have x5 := (((((mX.other (B' := R) (by omega) 0 (.int .i64 4)).other (B' := R) (by omega) 1 (.slice none 0 0)).other (B' := R) (by omega) 2 (.int .i64 0)).other (B' := R) (by omega) 3 (.int .i64 0)).other (B' := R) (by omega) 4 (.slice (some ⟨y7.heap.size, 0, none⟩) 2 2))
        have e5 := (((((m9.set 0 (.int .i64 4)).set 1 (.slice none 0 0)).set 2 (.int .i64 0)).set 3 (.int .i64 0)).set 4 (.slice (some ⟨y7.heap.size, 0, none⟩) 2 2))
        have T5 := (((((((hT.below w9 hT.lt).alloc (.cells #[.int .i64 v.kind, .slice k1 l1 k2, .int .i64 v.ty.base, .int .i64 v.idx, .slice k3 l2 k4, .int .i64 uq.kind, .slice s1 j1 s2, .int .i64 uq.ty.base, .int .i64 uq.idx, .slice s3 j2 s4] 27)).other (B' := R) (by omega) 0 (.int .i64 4)).other (B' := R) (by omega) 1 (.slice none 0 0)).other (B' := R) (by omega) 2 (.int .i64 0)).other (B' := R) (by omega) 3 (.int .i64 0)).other (B' := R) (by omega) 4 (.slice (some ⟨y7.heap.size, 0, none⟩) 2 2))
        have o5 := (((((((h1.below w9 h1.lt).alloc (.cells #[.int .i64 v.kind, .slice k1 l1 k2, .int .i64 v.ty.base, .int .i64 v.idx, .slice k3 l2 k4, .int .i64 uq.kind, .slice s1 j1 s2, .int .i64 uq.ty.base, .int .i64 uq.idx, .slice s3 j2 s4] 27)).other (B' := R) (by omega) 0 (.int .i64 4)).other (B' := R) (by omega) 1 (.slice none 0 0)).other (B' := R) (by omega) 2 (.int .i64 0)).other (B' := R) (by omega) 3 (.int .i64 0)).other (B' := R) (by omega) 4 (.slice (some ⟨y7.heap.size, 0, none⟩) 2 2))
        have B5 : Below N w ((((((y7.alloc (.cells #[.int .i64 v.kind, .slice k1 l1 k2, .int .i64 v.ty.base, .int .i64 v.idx, .slice k3 l2 k4, .int .i64 uq.kind, .slice s1 j1 s2, .int .i64 uq.ty.base, .int .i64 uq.idx, .slice s3 j2 s4] 27)).setCell ⟨R, 0, none⟩ (.int .i64 4)).setCell ⟨R, 1, none⟩ (.slice none 0 0)).setCell ⟨R, 2, none⟩ (.int .i64 0)).setCell ⟨R, 3, none⟩ (.int .i64 0)).setCell ⟨R, 4, none⟩ (.slice (some ⟨y7.heap.size, 0, none⟩) 2 2)) := (bset (bset (bset (bset (bset (hbl.trans (wA.mono hNw)) (by omega) _) (by omega) _) (by omega) _) (by omega) _) (by omega) _)
        have hp := holdsR_pairE (f := v) (a := uq) (e := 27) (ok := fun b => ((b < N ∧ ok b) ∨ N + 2 ≤ b) ∧ b ≠ R) x5 ⟨.inr (by omega), by omega⟩ a5 b5 c5 d5
        clear hv7 hr7 hv9 hr9 hV7 hR7 g0 g1 g2 g3 g4 f0 f1 f2 f3 f4 m9 hc7 w9 wA mX a5 b5 c5 d5 x5 t0 t1 t2 t3 t4 tT u0 u1 u2 u3
        have bx5 : BxO ((((((y7.alloc (.cells #[.int .i64 v.kind, .slice k1 l1 k2, .int .i64 v.ty.base, .int .i64 v.idx, .slice k3 l2 k4, .int .i64 uq.kind, .slice s1 j1 s2, .int .i64 uq.ty.base, .int .i64 uq.idx, .slice s3 j2 s4] 27)).setCell ⟨R, 0, none⟩ (.int .i64 4)).setCell ⟨R, 1, none⟩ (.slice none 0 0)).setCell ⟨R, 2, none⟩ (.int .i64 0)).setCell ⟨R, 3, none⟩ (.int .i64 0)).setCell ⟨R, 4, none⟩ (.slice (some ⟨y7.heap.size, 0, none⟩) 2 2)) R (fun b => (b < N ∧ ok b) ∨ N + 2 ≤ b) (appR v uq) := ⟨none, 0, 0, some ⟨y7.heap.size, 0, none⟩, 2, 2, e5, Holds.nil _ _ _ _ (fun _ => rfl), hp⟩
        clear e5 hp
        generalize ((((((y7.alloc (.cells #[.int .i64 v.kind, .slice k1 l1 k2, .int .i64 v.ty.base, .int .i64 v.idx, .slice k3 l2 k4, .int .i64 uq.kind, .slice s1 j1 s2, .int .i64 uq.ty.base, .int .i64 uq.idx, .slice s3 j2 s4] 27)).setCell ⟨R, 0, none⟩ (.int .i64 4)).setCell ⟨R, 1, none⟩ (.slice none 0 0)).setCell ⟨R, 2, none⟩ (.int .i64 0)).setCell ⟨R, 3, none⟩ (.int .i64 0)).setCell ⟨R, 4, none⟩ (.slice (some ⟨y7.heap.size, 0, none⟩) 2 2)) = W5 at *
        go_wp2
        go_roundw
        case rel => exact ⟨k + 1, by omega, by go_num, by rw [HAP.out]; exact bx5, T5, o5, B5⟩
        case measure => simp [intOf]; omega
    · obtain rfl : k = ts.length := by omega
      rw [List.take_length] at hbx
      obtain ⟨hv, hhv⟩ : ∃ v, appsR (hdR kk ii) (rawT ts) = v := ⟨_, rfl⟩
      rw [hhv] at hbx
      have HQ2 : Hid (q = lamsR hv bd) := by show _ = _; rw [← hhv]; exact HQ.out
      have hb6 : BxO wr R (fun b => (b < N ∧ ok b) ∨ N + 2 ≤ b) (lamsR hv (bd.drop bd.length)) := by rw [List.drop_length]; exact hbx
      have gB := hT.cell 0
      clear hhv hbx
      go_upto_region 6 with fail
      go_wp2_with fail
      clear gB gT
      go_loopw [5] (fun iv w2 => ∃ (n : Nat) (z : Int), n ≤ bd.length ∧ z = (n : Int) - 1 ∧ iv = .int .i64 z ∧ BxO w2 R (fun b => (b < N ∧ ok b) ∨ N + 2 ≤ b) (lamsR hv (bd.drop n)) ∧ Blk w2 N 71 #[.slice x1 bd.length x2, .int .i64 kk, .int .i64 ii, .slice x3 ts.length x4] ∧ Blk w2 (N + 1) 27 #[.int .i64 0, .slice none 0 0, .int .i64 0, .int .i64 0, .slice none 0 0] ∧ Below N w w2)
        (fun iv _ => (intOf iv + 1).toNat)
      case atStart => exact ⟨bd.length, _, Nat.le_refl _, rfl, by go_num, hb6, hT, h1, hbl⟩
      case round =>
        clear hb6 hT h1 hbl hNw
        obtain ⟨n, z, hn, hz, rfl, hbx2, hT, h1, hbl⟩ := hrel
        cases n with
        | succ m =>
          obtain rfl : z = (m : Int) := by omega
          have hlt : m < bd.length := by omega
          obtain ⟨y, hy⟩ : ∃ y, bd[m]? = some y := ⟨_, List.getElem?_eq_getElem hlt⟩
          rename World => w3
          have hA : Holds w3 (fun b => b < N ∧ ok b) bd (.slice x1 bd.length x2) := hb'.keep fun b _ h => ⟨hbl.block b h.1, h⟩
          obtain ⟨a9, c9, e9, _, hat⟩ := hA.shape
          cases e9
          obtain ⟨g, o, s, rfl, hgN, hg, a0, a1, hs⟩ := hat m y hy
          obtain ⟨s1, s2, rfl, _⟩ := hs.shape
          obtain ⟨un, hun⟩ : ∃ n, y.args.length = n := ⟨_, rfl⟩
          rw [hun] at hs a0
          have yy1 : (0 : Int) ≤ (m : Int) := by omega
          have yy2 : (m : Int) < (bd.length : Int) := by omega
          have yy3 : decide ((m : Int) ≥ 0) = true := by simp
          have HAP : Hid (lamsR hv (bd.drop m) = lamR y (lamsR hv (bd.drop (m + 1)))) := lamsR_drop hy
          generalize hV : lamsR hv (bd.drop (m + 1)) = v at *
          obtain ⟨k1, l1, k2, k3, l2, k4, hc1, hc2, hc3⟩ := hbx2.ex
          have j0 := hc1.cell 0
          have j1 := hc1.cell 1
          have j2 := hc1.cell 2
          have j3 := hc1.cell 3
          have j4 := hc1.cell 4
          have jT := hT.cell 0
          obtain ⟨X, hX⟩ : ∃ X, w3.heap.size = X := ⟨_, rfl⟩
          have hAl : Below w3.heap.size w3 (w3.alloc (.cells #[.int .i64 v.kind, .slice k1 l1 k2, .int .i64 v.ty.base, .int .i64 v.idx, .slice k3 l2 k4] 27)) := (Below.refl _ _).alloc (Nat.le_refl _) _
          have mC := hc1.below hAl hc1.lt
          have mX : Blk (w3.alloc (.cells #[.int .i64 v.kind, .slice k1 l1 k2, .int .i64 v.ty.base, .int .i64 v.idx, .slice k3 l2 k4] 27)) X 27 #[.int .i64 v.kind, .slice k1 l1 k2, .int .i64 v.ty.base, .int .i64 v.idx, .slice k3 l2 k4] := Blk.new' w3 X 27 _ hX
          have mT := hT.below hAl hT.lt
          have m1 := h1.below hAl h1.lt
          have hRX : R < X := by have := hc1.lt; omega
          have mB : Below N w (w3.alloc (.cells #[.int .i64 v.kind, .slice k1 l1 k2, .int .i64 v.ty.base, .int .i64 v.idx, .slice k3 l2 k4] 27)) := hbl.trans (hAl.mono (by omega))
          have hv1 := hc2.bel hAl
          have hv2 := hc3.bel hAl
          have hu1 := hs.bel hAl
          have f0 := mC.frozen 0
          have f1 := mC.frozen 1
          have f2 := mC.frozen 2
          have f3 := mC.frozen 3
          have f4 := mC.frozen 4
          have nn0 := (cat hAl hg).trans a0
          have nn1 := (cat hAl hg).trans a1
          have nT := mT.cell 0
          have e0 := mC.cell 0
          have e1 := mC.cell 1
          have e2 := mC.cell 2
          have e3 := mC.cell 3
          have e4 := mC.cell 4
          have hgn := hgN.1
          have HBX : Hid (R < X) := hRX
          have hgX : g < X := by omega
          have hNX : N < X := by omega
          clear hat hy hA hs hc1 hc2 hc3 hAl hbx2 hbl hun hV hz hRX hT h1
          go_upto_region 9 with fail
          go_region
          have hRX : R < X := HBX.out
          have bC5 := (((((mC.set 0 (.int .i64 3)).set 1 (.slice s1 un s2)).set 2 (.int .i64 y.base)).set 3 (.int .i64 0)).set 4 (.slice (some ⟨X, 0, none⟩) 1 1))
          have bX5 := (((((mX.other (B' := R) (by omega) 0 (.int .i64 3)).other (B' := R) (by omega) 1 (.slice s1 un s2)).other (B' := R) (by omega) 2 (.int .i64 y.base)).other (B' := R) (by omega) 3 (.int .i64 0)).other (B' := R) (by omega) 4 (.slice (some ⟨X, 0, none⟩) 1 1))
          have bT5 := (((((mT.other (B' := R) (by omega) 0 (.int .i64 3)).other (B' := R) (by omega) 1 (.slice s1 un s2)).other (B' := R) (by omega) 2 (.int .i64 y.base)).other (B' := R) (by omega) 3 (.int .i64 0)).other (B' := R) (by omega) 4 (.slice (some ⟨X, 0, none⟩) 1 1))
          have b15 := (((((m1.other (B' := R) (by omega) 0 (.int .i64 3)).other (B' := R) (by omega) 1 (.slice s1 un s2)).other (B' := R) (by omega) 2 (.int .i64 y.base)).other (B' := R) (by omega) 3 (.int .i64 0)).other (B' := R) (by omega) 4 (.slice (some ⟨X, 0, none⟩) 1 1))
          have hv5 := holds_set5 (g := R) (ok' := fun b => ((b < N ∧ ok b) ∨ N + 2 ≤ b) ∧ b ≠ R) hv1 (fun b _ h => ⟨h.2, h⟩) (.int .i64 3) (.slice s1 un s2) (.int .i64 y.base) (.int .i64 0) (.slice (some ⟨X, 0, none⟩) 1 1)
          have hw5 := holdsR_set5 (g := R) (ok' := fun b => ((b < N ∧ ok b) ∨ N + 2 ≤ b) ∧ b ≠ R) hv2 (fun b _ h => ⟨h.2, h⟩) (.int .i64 3) (.slice s1 un s2) (.int .i64 y.base) (.int .i64 0) (.slice (some ⟨X, 0, none⟩) 1 1)
          have hu5 := holds_set5 (g := R) (ok' := fun b => ((b < N ∧ ok b) ∨ N + 2 ≤ b) ∧ b ≠ R) hu1 (fun b _ h => ⟨by omega, .inl h, by omega⟩) (.int .i64 3) (.slice s1 un s2) (.int .i64 y.base) (.int .i64 0) (.slice (some ⟨X, 0, none⟩) 1 1)
          have B5 : Below N w ((((((w3.alloc (.cells #[.int .i64 v.kind, .slice k1 l1 k2, .int .i64 v.ty.base, .int .i64 v.idx, .slice k3 l2 k4] 27)).setCell ⟨R, 0, none⟩ (.int .i64 3)).setCell ⟨R, 1, none⟩ (.slice s1 un s2)).setCell ⟨R, 2, none⟩ (.int .i64 y.base)).setCell ⟨R, 3, none⟩ (.int .i64 0)).setCell ⟨R, 4, none⟩ (.slice (some ⟨X, 0, none⟩) 1 1)) := (bset (bset (bset (bset (bset mB (by omega) _) (by omega) _) (by omega) _) (by omega) _) (by omega) _)
          have hone : HoldsR ((((((w3.alloc (.cells #[.int .i64 v.kind, .slice k1 l1 k2, .int .i64 v.ty.base, .int .i64 v.idx, .slice k3 l2 k4] 27)).setCell ⟨R, 0, none⟩ (.int .i64 3)).setCell ⟨R, 1, none⟩ (.slice s1 un s2)).setCell ⟨R, 2, none⟩ (.int .i64 y.base)).setCell ⟨R, 3, none⟩ (.int .i64 0)).setCell ⟨R, 4, none⟩ (.slice (some ⟨X, 0, none⟩) 1 1)) (fun b => ((b < N ∧ ok b) ∨ N + 2 ≤ b) ∧ b ≠ R) [v] (.slice (some ⟨X, 0, none⟩) 1 1) := holdsR_one bX5 ⟨.inr (by omega), by omega⟩ hv5 hw5
          clear mC mX mT m1 hv1 hv2 hu1 hv5 hw5 bX5 e0 e1 e2 e3 e4 f0 f1 f2 f3 f4 j0 j1 j2 j3 j4 jT mB a0 a1 nn0 nn1 nT
          generalize ((((((w3.alloc (.cells #[.int .i64 v.kind, .slice k1 l1 k2, .int .i64 v.ty.base, .int .i64 v.idx, .slice k3 l2 k4] 27)).setCell ⟨R, 0, none⟩ (.int .i64 3)).setCell ⟨R, 1, none⟩ (.slice s1 un s2)).setCell ⟨R, 2, none⟩ (.int .i64 y.base)).setCell ⟨R, 3, none⟩ (.int .i64 0)).setCell ⟨R, 4, none⟩ (.slice (some ⟨X, 0, none⟩) 1 1)) = W5 at *
          have bx5 : BxO W5.drew R (fun b => (b < N ∧ ok b) ∨ N + 2 ≤ b) (lamR y v) := ⟨s1, un, s2, some ⟨X, 0, none⟩, 1, 1, bC5, hu5.drew, hone.drew⟩
          go_wp2
          exact ⟨⟨m, (m : Int) - 1, by omega, rfl, by go_num, by rw [HAP.out]; exact bx5, bT5, b15, B5.drew⟩, by simp [intOf] <;> omega⟩
        | zero =>
          obtain rfl : z = -1 := by omega
          clear hz
          rename World => w7
          rw [List.drop_zero, ← HQ2.out] at hbx2
          obtain ⟨k1, l1, k2, k3, l2, k4, hc1, hc2, hc3⟩ := hbx2.ex
          have j0 := hc1.cell 0
          have j1 := hc1.cell 1
          have j2 := hc1.cell 2
          have j3 := hc1.cell 3
          have j4 := hc1.cell 4
          have e0 := h1.cell 0
          have e1 := h1.cell 1
          have e2 := h1.cell 2
          have e3 := h1.cell 3
          have e4 := h1.cell 4
          have f0 := h1.frozen 0
          have f1 := h1.frozen 1
          have f2 := h1.frozen 2
          have f3 := h1.frozen 3
          have f4 := h1.frozen 4
          have h5 := holds_set5 (g := N + 1) (ok' := fun b => ok b ∨ w.heap.size ≤ b) hc2 (fun b _ h => ⟨by rcases h.1 with h | h <;> omega, h.1.imp (fun h => h.2) (fun h => by rw [HN.out]; omega)⟩) (.int .i64 q.kind) (.slice k1 l1 k2) (.int .i64 q.ty.base) (.int .i64 q.idx) (.slice k3 l2 k4)
          have h6 := holdsR_set5 (g := N + 1) (ok' := fun b => ok b ∨ w.heap.size ≤ b) hc3 (fun b _ h => ⟨by rcases h.1 with h | h <;> omega, h.1.imp (fun h => h.2) (fun h => by rw [HN.out]; omega)⟩) (.int .i64 q.kind) (.slice k1 l1 k2) (.int .i64 q.ty.base) (.int .i64 q.idx) (.slice k3 l2 k4)
          have b5 := (((((h1.set 0 (.int .i64 q.kind)).set 1 (.slice k1 l1 k2)).set 2 (.int .i64 q.ty.base)).set 3 (.int .i64 q.idx)).set 4 (.slice k3 l2 k4))
          have B5 : Below w.heap.size w (((((w7.setCell ⟨N + 1, 0, none⟩ (.int .i64 q.kind)).setCell ⟨N + 1, 1, none⟩ (.slice k1 l1 k2)).setCell ⟨N + 1, 2, none⟩ (.int .i64 q.ty.base)).setCell ⟨N + 1, 3, none⟩ (.int .i64 q.idx)).setCell ⟨N + 1, 4, none⟩ (.slice k3 l2 k4)) := by rw [HN.out]; exact (bset (bset (bset (bset (bset hbl (by omega) _) (by omega) _) (by omega) _) (by omega) _) (by omega) _)
          clear hbx2 hT hbl hc1 hc2 hc3
          go_wp2
          generalize (((((w7.setCell ⟨N + 1, 0, none⟩ (.int .i64 q.kind)).setCell ⟨N + 1, 1, none⟩ (.slice k1 l1 k2)).setCell ⟨N + 1, 2, none⟩ (.int .i64 q.ty.base)).setCell ⟨N + 1, 3, none⟩ (.int .i64 q.idx)).setCell ⟨N + 1, 4, none⟩ (.slice k3 l2 k4)) = W5 at *
          have g0 : W5.cell? ⟨N + 1, 0, none⟩ = some (.int .i64 q.kind) := b5.cell 0
          have g1 : W5.cell? ⟨N + 1, 1, none⟩ = some (.slice k1 l1 k2) := b5.cell 1
          have g2 : W5.cell? ⟨N + 1, 2, none⟩ = some (.int .i64 q.ty.base) := b5.cell 2
          have g3 : W5.cell? ⟨N + 1, 3, none⟩ = some (.int .i64 q.idx) := b5.cell 3
          have g4 : W5.cell? ⟨N + 1, 4, none⟩ = some (.slice k3 l2 k4) := b5.cell 4
          exact bodyPost_ret (v := rwv q.kind (.slice k1 l1 k2) q.ty.base q.idx (.slice k3 l2 k4)) (by simp [results, Try.results35, go_sem, g0, g1, g2, g3, g4]) rfl ⟨_, _, rfl, h5, h6, B5⟩

end Go.Proofs.Ytckagmagjogmnaa
