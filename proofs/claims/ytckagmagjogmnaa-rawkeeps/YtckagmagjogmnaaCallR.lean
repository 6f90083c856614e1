/-
  The contract of raw.Call.
-/
import Derived.Test.YtckagmagjogmnaaApply
import Derived.Deep.RegionWith
import Derived.Deep.DeepCutAuto
namespace Go.Proofs.Ytckagmagjogmnaa
open Go Go.RowKit

/-- f applied to each, the first one innermost -/
def appsR (f : Rw) (l : List Rw) : Rw := l.foldl appR f
theorem appsR_snoc (f : Rw) (l : List Rw) (a : Rw) : appsR f (l ++ [a]) = appR (appsR f l) a := by unfold appsR; rw [List.foldl_append]; rfl
theorem appsR_take {f : Rw} {l : List Rw} {k : Nat} {a : Rw} (h : l[k]? = some a) : appsR f (l.take (k + 1)) = appR (appsR f (l.take k)) a := by rw [List.take_add_one, h]; exact appsR_snoc _ _ _

/-- What Call's rounds keep: the term so far, in a box of its own. -/
def ICall (w : World) (N R : Nat) (v : Rw) (W : World) : Prop := ∃ x1 n1 x2 x3 n2 x4, Blk W R 35 #[.int .i64 v.kind, .slice x1 n1 x2, .int .i64 v.ty.base, .int .i64 v.idx, .slice x3 n2 x4] ∧ Holds W (fun b => N + 1 + 1 ≤ b ∧ b ≠ R) v.ty.args (.slice x1 n1 x2) ∧ HoldsR W (fun b => N + 1 + 1 ≤ b ∧ b ≠ R) v.kids (.slice x3 n2 x4) ∧ Blk W (N + 1) 35 #[.int .i64 0, .slice none 0 0, .int .i64 0, .int .i64 0, .slice none 0 0] ∧ Below N w W

set_option maxRecDepth 100000 in
set_option maxHeartbeats 1600000 in
theorem Call_calls (t : Rw) (ts : List Rw) (ok okt : Nat → Prop) (sb sr st : Value) (w : World) (hb : Holds w ok t.ty.args sb) (hr : HoldsR w ok t.kids sr) (ht : HoldsR w okt ts st) (hfit : t.fit) (hfs : ∀ u ∈ ts, u.fit) (hlen : ts.length ≤ 1000000) :
    Calls Try.prog 23 #[rwv t.kind sb t.ty.base t.idx sr, st] w (Made [] w (appsR t ts)) := by
  obtain ⟨x1, x2, hx, _⟩ := hb.shape
  obtain ⟨x3, x4, hx', _⟩ := hr.shape
  obtain ⟨N, hN⟩ : ∃ N, w.heap.size = N := ⟨_, rfl⟩
  have ht' : HoldsR w (fun b => b < N) ts st := ht.mono fun b h _ => by omega
  obtain ⟨y1, y2, hy, _⟩ := ht.shape
  generalize t.ty.args.length = n1 at hx
  generalize t.kids.length = n2 at hx'
  subst hx hx' hy
  obtain ⟨W0, hW0⟩ : ∃ W0, (w.alloc (.cells #[.int .i64 t.kind, .slice x1 n1 x2, .int .i64 t.ty.base, .int .i64 t.idx, .slice x3 n2 x4] 35)).alloc (.cells #[.int .i64 0, .slice none 0 0, .int .i64 0, .int .i64 0, .slice none 0 0] 35) = W0 := ⟨_, rfl⟩
  have b0 : Blk W0 N 35 #[.int .i64 t.kind, .slice x1 n1 x2, .int .i64 t.ty.base, .int .i64 t.idx, .slice x3 n2 x4] := by rw [← hW0]; exact (Blk.new' w N 35 _ hN).alloc _
  have b1 : Blk W0 (N + 1) 35 #[.int .i64 0, .slice none 0 0, .int .i64 0, .int .i64 0, .slice none 0 0] := by rw [← hW0]; exact Blk.new' _ (N + 1) 35 _ (by simp [hN])
  have bl : Below N w W0 := by rw [← hW0]; exact ((Below.refl N w).alloc (by omega) _).alloc (by simp; omega) _
  have hcall := freshR_calls t ok _ _ W0 (hb.bel (hN ▸ bl)) (hr.bel (hN ▸ bl)) hfit
  have c0 := b0.cell 0
  have c1 := b0.cell 1
  have c2 := b0.cell 2
  have c3 := b0.cell 3
  have c4 := b0.cell 4
  have hz : W0.heap.size = N + 1 + 1 := by rw [← hW0]; simp [hN]
  have HW : Hid _ := hW0
  have HN : Hid (w.heap.size = N) := hN
  have HF : Hid (∀ u ∈ ts, u.fit) := hfs
  clear hW0 hb hr ht hfit hfs
  go_enter Try.func23, Try.ntmps23
  go_upto_region 1 with fail
  rw [HW.out]
  clear HW
  go_wp2_with fail
  refine hcall.mono ?_
  rintro e w1 ⟨vb, vr, rfl, hvb, hvr, hO1⟩
  obtain ⟨u1, u2, rfl, _⟩ := hvb.shape
  obtain ⟨u3, u4, rfl, _⟩ := hvr.shape
  obtain ⟨m1, hm1⟩ : ∃ n, t.ty.args.length = n := ⟨_, rfl⟩
  obtain ⟨m2, hm2⟩ : ∃ n, t.kids.length = n := ⟨_, rfl⟩
  rw [hm1] at hvb ⊢
  rw [hm2] at hvr ⊢
  have m1' := b1.only hO1 (by simp)
  have B1 : Below N w w1 := bl.trans (hO1.below (by omega) (by simp))
  obtain ⟨R, hR⟩ : ∃ R, w1.heap.size = R := ⟨_, rfl⟩
  have hRN : N + 1 + 1 ≤ R := by have := hO1.size; omega
  obtain ⟨W2, hW2⟩ : ∃ W2, w1.alloc (.cells #[.int .i64 t.kind, .slice u1 m1 u2, .int .i64 t.ty.base, .int .i64 t.idx, .slice u3 m2 u4] 35) = W2 := ⟨_, rfl⟩
  have hI0 : ICall w N R t W2 := by
    rw [← hW2]
    refine ⟨u1, m1, u2, u3, m2, u4, Blk.new' w1 R 35 _ hR, (hvb.mono fun b h1 h2 => ⟨by omega, by omega⟩).alloc _, (hvr.mono fun b h1 h2 => ⟨by omega, by omega⟩).alloc _, m1'.alloc _, B1.alloc (by omega) _⟩
  have HW2 : Hid _ := hW2
  clear hcall c0 c1 c2 c3 c4 hvb hvr b0 b1 hW2 hO1 m1' B1 bl hm1 hm2
  go_upto_region 2 with fail
  rw [HW2.out]
  clear HW2
  go_wp2_with fail
  go_loopw [12] (fun i wr => ∃ k : Nat, k ≤ ts.length ∧ i = .int .i64 k ∧ ICall w N R (appsR t (ts.take k)) wr) (fun i _ => ts.length - (intOf i).toNat)
  case atStart => exact ⟨0, Nat.zero_le _, rfl, hI0⟩
  case round =>
    clear hI0 hz hR
    obtain ⟨k, hk, rfl, z1, k1, z2, z3, k2, z4, h0, hv, hr, h1, hbl⟩ := hrel
    have hlR := h0.lt
    have hNw : N ≤ wr.heap.size := by omega
    by_cases hlt : k < ts.length
    · obtain ⟨u, hu⟩ : ∃ u, ts[k]? = some u := ⟨_, List.getElem?_eq_getElem hlt⟩
      have htw : HoldsR wr (fun b => b < N) ts (.slice y1 ts.length y2) := ht'.keep fun b _ h => ⟨hbl.block b h, h⟩
      obtain ⟨a9, c9, e9, _, hat⟩ := htw.shape
      cases e9
      obtain ⟨g, o, s, r, rfl, hgN, hg, a0, a1, a2, a3, a4, hs, hsr⟩ := hat k u hu
      obtain ⟨sa, sc, rfl, _⟩ := hs.shape
      obtain ⟨sd, se, rfl, _⟩ := hsr.shape
      generalize u.ty.args.length = n3 at *
      generalize u.kids.length = n4 at *
      have hm := List.mem_of_getElem? hu
      have HAP : Hid (appsR t (ts.take (k + 1)) = appR (appsR t (ts.take k)) u) := appsR_take hu
      have y1' : (0 : Int) ≤ (k : Int) := by omega
      have y2' : (k : Int) < (ts.length : Int) := by omega
      have hfu := HF.out u hm
      generalize appsR t (ts.take k) = v at *
      obtain ⟨X, hX⟩ : ∃ X, wr.heap.size = X := ⟨_, rfl⟩
      obtain ⟨W3, hW3⟩ : ∃ W3, wr.alloc (.cells #[.int .i64 u.kind, .slice sa n3 sc, .int .i64 u.ty.base, .int .i64 u.idx, .slice sd n4 se] 35) = W3 := ⟨_, rfl⟩
      have d3 : Blk W3 X 35 #[.int .i64 u.kind, .slice sa n3 sc, .int .i64 u.ty.base, .int .i64 u.idx, .slice sd n4 se] := by rw [← hW3]; exact Blk.new' wr X 35 _ hX
      have d0 : Blk W3 R 35 #[.int .i64 v.kind, .slice z1 k1 z2, .int .i64 v.ty.base, .int .i64 v.idx, .slice z3 k2 z4] := by rw [← hW3]; exact h0.alloc _
      have d1 : Blk W3 (N + 1) 35 #[.int .i64 0, .slice none 0 0, .int .i64 0, .int .i64 0, .slice none 0 0] := by rw [← hW3]; exact h1.alloc _
      have hv3 : Holds W3 (fun b => N + 1 + 1 ≤ b ∧ b ≠ R) v.ty.args (.slice z1 k1 z2) := by rw [← hW3]; exact hv.alloc _
      have hr3 : HoldsR W3 (fun b => N + 1 + 1 ≤ b ∧ b ≠ R) v.kids (.slice z3 k2 z4) := by rw [← hW3]; exact hr.alloc _
      have hs3 : Holds W3 (fun b => b < N) u.ty.args (.slice sa n3 sc) := by rw [← hW3]; exact hs.alloc _
      have hsr3 : HoldsR W3 (fun b => b < N) u.kids (.slice sd n4 se) := by rw [← hW3]; exact hsr.alloc _
      have hb3 : Below N w W3 := by rw [← hW3]; exact hbl.alloc hNw _
      have hz3 : W3.heap.size = X + 1 := by rw [← hW3]; simp [hX]
      have HW3 : Hid _ := hW3
      clear hW3 h0 h1 hv hr hat hs hsr hbl htw hu
      go_upto_region 5 with fail
      rw [HW3.out]
      clear HW3 a0 a1 a2 a3 a4
      have p0 := d0.cell 0
      have p1 := d0.cell 1
      have p2 := d0.cell 2
      have p3 := d0.cell 3
      have p4 := d0.cell 4
      have q0 := d3.cell 0
      have q1 := d3.cell 1
      have q2 := d3.cell 2
      have q3 := d3.cell 3
      have q4 := d3.cell 4
      have hcur := Cur.refl W3
      have hK : ∀ (z : World), Cur W3 z → z.cell? ⟨R, 0, none⟩ = some (.int .i64 v.kind) ∧ z.cell? ⟨R, 1, none⟩ = some (.slice z1 k1 z2) ∧ z.cell? ⟨R, 2, none⟩ = some (.int .i64 v.ty.base) ∧ z.cell? ⟨R, 3, none⟩ = some (.int .i64 v.idx) ∧ z.cell? ⟨R, 4, none⟩ = some (.slice z3 k2 z4) ∧ z.cell? ⟨X, 0, none⟩ = some (.int .i64 u.kind) ∧ z.cell? ⟨X, 1, none⟩ = some (.slice sa n3 sc) ∧ z.cell? ⟨X, 2, none⟩ = some (.int .i64 u.ty.base) ∧ z.cell? ⟨X, 3, none⟩ = some (.int .i64 u.idx) ∧ z.cell? ⟨X, 4, none⟩ = some (.slice sd n4 se) := fun z hz => ⟨hz.cell p0, hz.cell p1, hz.cell p2, hz.cell p3, hz.cell p4, hz.cell q0, hz.cell q1, hz.cell q2, hz.cell q3, hz.cell q4⟩
      have hXR : X ≠ R := by omega
      have k51 : ∀ cur, Cur W3 cur → Calls Try.prog 51 #[rwv u.kind (.slice sa n3 sc) u.ty.base u.idx (.slice sd n4 se)] cur fun e w' => ∃ s1 s2 s3 s4, e = .returned (rwv u.kind (.slice s1 n3 s2) u.ty.base u.idx (.slice s3 n4 s4)) ∧ Holds w' (fun b => W3.heap.size ≤ b) u.ty.args (.slice s1 n3 s2) ∧ HoldsR w' (fun b => W3.heap.size ≤ b) u.kids (.slice s3 n4 s4) ∧ Cur W3 w' := fun cur hc => by
        have hl1 : u.ty.args.length = n3 := by obtain ⟨_, _, e8, _⟩ := hs3.shape; cases e8; rfl
        have hl2 : u.kids.length = n4 := by obtain ⟨_, _, e8, _⟩ := hsr3.shape; cases e8; rfl
        refine (freshR_calls u _ _ _ cur (hc.holds hs3) (hc.holdsR hsr3) hfu).mono fun e w' ⟨vb, vr, he, h5, h6, h7⟩ => ?_
        obtain ⟨s1, s2, rfl, _⟩ := h5.shape
        obtain ⟨s3, s4, rfl, _⟩ := h6.shape
        rw [hl1] at he h5
        rw [hl2] at he h6
        have hsz := Below.size hc
        exact ⟨s1, s2, s3, s4, he, h5.mono fun b _ h => by omega, h6.mono fun b _ h => by omega, hc.then (h7.below (Nat.le_refl _) (by simp))⟩
      have k52 : ∀ cur s1 s2 s3 s4, Cur W3 cur → Holds cur (fun b => W3.heap.size ≤ b) u.ty.args (.slice s1 n3 s2) → HoldsR cur (fun b => W3.heap.size ≤ b) u.kids (.slice s3 n4 s4) → Calls Try.prog 52 #[rwv v.kind (.slice z1 k1 z2) v.ty.base v.idx (.slice z3 k2 z4), rwv u.kind (.slice s1 n3 s2) u.ty.base u.idx (.slice s3 n4 s4)] cur fun e w' => ∃ s1 m1 s2 s3 m2 s4, e = .returned (rwv (appR v u).kind (.slice s1 m1 s2) (appR v u).ty.base (appR v u).idx (.slice s3 m2 s4)) ∧ Holds w' (fun b => N + 1 + 1 ≤ b ∧ b ≠ R) (appR v u).ty.args (.slice s1 m1 s2) ∧ HoldsR w' (fun b => N + 1 + 1 ≤ b ∧ b ≠ R) (appR v u).kids (.slice s3 m2 s4) ∧ Cur W3 w' := fun cur s1 s2 s3 s4 hc h5 h6 => by
        have hsz := Below.size hc
        refine (apply_calls v u (fun b => N + 1 + 1 ≤ b ∧ b ≠ R) _ _ _ _ cur (fun b h => ⟨by omega, by omega⟩) (hc.holds hv3) (hc.holdsR hr3) (h5.mono fun b _ h => ⟨by omega, by omega⟩) (h6.mono fun b _ h => ⟨by omega, by omega⟩)).mono fun e w' ⟨vb, vr, he, h7, h8, h9⟩ => ?_
        obtain ⟨s1, s2, rfl, _⟩ := h7.shape
        obtain ⟨s3, s4, rfl, _⟩ := h8.shape
        exact ⟨s1, _, s2, s3, _, s4, he, h7, h8, hc.then (h9.below (Nat.le_refl _) (by simp))⟩
      generalize appR v u = v5 at *
      go_region_with (first
          | (go_at_call 52; refine (k52 _ _ _ _ _ (by first | with_reducible assumption | (with_reducible refine Cur.drew ?_; assumption)) hv7 hr7).mono ?_; rintro e y9 ⟨r1, e1, r2, r3, e2, r4, rfl, hv9, hr9, hc9⟩; have m9 := d0.below (show Below W3.heap.size W3 y9 from hc9) d0.lt; have g0 := m9.cell 0; have g1 := m9.cell 1; have g2 := m9.cell 2; have g3 := m9.cell 3; have g4 := m9.cell 4; have f0 := m9.frozen 0; have f1 := m9.frozen 1; have f2 := m9.frozen 2; have f3 := m9.frozen 3; have f4 := m9.frozen 4)
          | (go_at_call 51; refine (k51 _ (by first | with_reducible assumption | (with_reducible refine Cur.drew ?_; assumption))).mono ?_; rintro e y7 ⟨s1, s2, s3, s4, rfl, hv7, hr7, hc7⟩; have t0 := hc7.cell p0; have t1 := hc7.cell p1; have t2 := hc7.cell p2; have t3 := hc7.cell p3; have t4 := hc7.cell p4))
      all_goals
        have w9 : Below W3.heap.size W3 y9 := hc9
        have h5 := holds_set5 (g := R) (ok' := fun b => N + 1 + 1 ≤ b ∧ b ≠ R) hv9 (fun b _ h => ⟨h.2, h⟩) (.int .i64 v5.kind) (.slice r1 e1 r2) (.int .i64 v5.ty.base) (.int .i64 v5.idx) (.slice r3 e2 r4)
        have h6 := holdsR_set5 (g := R) (ok' := fun b => N + 1 + 1 ≤ b ∧ b ≠ R) hr9 (fun b _ h => ⟨h.2, h⟩) (.int .i64 v5.kind) (.slice r1 e1 r2) (.int .i64 v5.ty.base) (.int .i64 v5.idx) (.slice r3 e2 r4)
        have b5 := (((((m9.set 0 (.int .i64 v5.kind)).set 1 (.slice r1 e1 r2)).set 2 (.int .i64 v5.ty.base)).set 3 (.int .i64 v5.idx)).set 4 (.slice r3 e2 r4))
        have b6 := ((((((d1.below w9 d1.lt).other (B' := R) (by omega) 0 (.int .i64 v5.kind)).other (B' := R) (by omega) 1 (.slice r1 e1 r2)).other (B' := R) (by omega) 2 (.int .i64 v5.ty.base)).other (B' := R) (by omega) 3 (.int .i64 v5.idx)).other (B' := R) (by omega) 4 (.slice r3 e2 r4))
        have B5 : Below N w ((((((y9.setCell ⟨R, 0, none⟩ (.int .i64 v5.kind)).setCell ⟨R, 1, none⟩ (.slice r1 e1 r2)).setCell ⟨R, 2, none⟩ (.int .i64 v5.ty.base)).setCell ⟨R, 3, none⟩ (.int .i64 v5.idx)).setCell ⟨R, 4, none⟩ (.slice r3 e2 r4))) := bset (bset (bset (bset (bset (hb3.trans (w9.mono (by omega))) (by omega) (i := 0) (.int .i64 v5.kind)) (by omega) (i := 1) (.slice r1 e1 r2)) (by omega) (i := 2) (.int .i64 v5.ty.base)) (by omega) (i := 3) (.int .i64 v5.idx)) (by omega) (i := 4) (.slice r3 e2 r4)
        clear hv7 hr7 hv9 hr9 g0 g1 g2 g3 g4 f0 f1 f2 f3 f4 m9 hc9 w9
        generalize (((((y9.setCell ⟨R, 0, none⟩ (.int .i64 v5.kind)).setCell ⟨R, 1, none⟩ (.slice r1 e1 r2)).setCell ⟨R, 2, none⟩ (.int .i64 v5.ty.base)).setCell ⟨R, 3, none⟩ (.int .i64 v5.idx)).setCell ⟨R, 4, none⟩ (.slice r3 e2 r4)) = W5 at *
        go_wp2
        go_roundw
        case rel => exact ⟨k + 1, by omega, by go_num, by rw [HAP.out]; exact ⟨r1, e1, r2, r3, e2, r4, b5, h5, h6, b6, B5⟩⟩
        case measure => simp [intOf]; omega
    · obtain rfl : k = ts.length := by omega
      rw [List.take_length] at h0 hv hr
      generalize hvv : appsR t ts = v at *
      have HV : Hid (appsR t ts = v) := hvv
      have p0 := h0.cell 0
      have p1 := h0.cell 1
      have p2 := h0.cell 2
      have p3 := h0.cell 3
      have p4 := h0.cell 4
      have hO2 : Only [] w wr := Only.of_below' (by rw [HN.out]; exact hbl)
      have hg9 : w.heap.size ≤ N + 1 := by rw [HN.out]; omega
      clear hvv
      have e0 := h1.cell 0
      have e1 := h1.cell 1
      have e2 := h1.cell 2
      have e3 := h1.cell 3
      have e4 := h1.cell 4
      have f0 := h1.frozen 0
      have f1 := h1.frozen 1
      have f2 := h1.frozen 2
      have f3 := h1.frozen 3
      have f4 := h1.frozen 4
      have h5 := holds_set5 (g := N + 1) (ok' := fun b => w.heap.size ≤ b) hv (fun b _ h => ⟨by omega, by rw [HN.out]; omega⟩) (.int .i64 v.kind) (.slice z1 k1 z2) (.int .i64 v.ty.base) (.int .i64 v.idx) (.slice z3 k2 z4)
      have h6 := holdsR_set5 (g := N + 1) (ok' := fun b => w.heap.size ≤ b) hr (fun b _ h => ⟨by omega, by rw [HN.out]; omega⟩) (.int .i64 v.kind) (.slice z1 k1 z2) (.int .i64 v.ty.base) (.int .i64 v.idx) (.slice z3 k2 z4)
      have b5 := (((((h1.set 0 (.int .i64 v.kind)).set 1 (.slice z1 k1 z2)).set 2 (.int .i64 v.ty.base)).set 3 (.int .i64 v.idx)).set 4 (.slice z3 k2 z4))
      have hO5 := (((((hO2.setNew hg9 0 (.int .i64 v.kind)).setNew hg9 1 (.slice z1 k1 z2)).setNew hg9 2 (.int .i64 v.ty.base)).setNew hg9 3 (.int .i64 v.idx)).setNew hg9 4 (.slice z3 k2 z4))
      go_wp2
      generalize (((((wr.setCell ⟨N + 1, 0, none⟩ (.int .i64 v.kind)).setCell ⟨N + 1, 1, none⟩ (.slice z1 k1 z2)).setCell ⟨N + 1, 2, none⟩ (.int .i64 v.ty.base)).setCell ⟨N + 1, 3, none⟩ (.int .i64 v.idx)).setCell ⟨N + 1, 4, none⟩ (.slice z3 k2 z4)) = W5 at *
      have g0 : W5.cell? ⟨N + 1, 0, none⟩ = some (.int .i64 v.kind) := b5.cell 0
      have g1 : W5.cell? ⟨N + 1, 1, none⟩ = some (.slice z1 k1 z2) := b5.cell 1
      have g2 : W5.cell? ⟨N + 1, 2, none⟩ = some (.int .i64 v.ty.base) := b5.cell 2
      have g3 : W5.cell? ⟨N + 1, 3, none⟩ = some (.int .i64 v.idx) := b5.cell 3
      have g4 : W5.cell? ⟨N + 1, 4, none⟩ = some (.slice z3 k2 z4) := b5.cell 4
      exact bodyPost_ret (v := rwv v.kind (.slice z1 k1 z2) v.ty.base v.idx (.slice z3 k2 z4)) (by simp [results, Try.results23, go_sem, g0, g1, g2, g3, g4]) rfl ⟨_, _, rfl, h5, h6, hO5⟩

end Go.Proofs.Ytckagmagjogmnaa
