/-
  RawMakes comes out true: the walk.
-/
import Derived.Test.YtckagmagjogmnaaMakesA
import Derived.Test.YtckagmagjogmnaaWld
import Derived.Test.YtckagmagjogmnaaOfR
import Derived.Test.YtckagmagjogmnaaSameR
import Derived.Deep.RegionLaw
namespace Go.Proofs.Ytckagmagjogmnaa
open Go Go.RowKit Go.Sort

def actM16 (z1 la : Option Addr) (tn z3 un lc : Nat) (k i : Int) (N C B : Nat) (y0 y2 y6 y7 y8 y9 y13 y15 y16 y17 y18 y19 y20 y21 y22 y23 y24 y25 y26 y27 y28 y29 y30 y31 y32 y33 y34 y35 y36 y37 y38 y39 y40 y41 y42 y43 y44 y45 y46 y47 y48 y49 y50 y51 y52 y53 y54 y55 y56 y57 y58 y59 y60 y61 y62 y63 y64 y65 y66 y67 y68 y69 y70 y71 y72 y73 y74 y75 y76 y77 y78 : Value) (u : Nat → Value) : Act :=
  { tmps := #[y0, .slice z1 tn z3, y2, .int .i64 k, .int .i64 i, .pointer (some ⟨N, 0, none⟩), y6, y7, y8, y9, u 10, .slice la un lc, .pointer (some ⟨C, 0, none⟩), y13, .pointer (some ⟨B, 0, none⟩), y15, y16, y17, y18, y19, y20, y21, y22, y23, y24, y25, y26, y27, y28, y29, y30, y31, y32, y33, y34, y35, y36, y37, y38, y39, y40, y41, y42, y43, y44, y45, y46, y47, y48, y49, y50, y51, y52, y53, y54, y55, y56, y57, y58, y59, y60, y61, y62, y63, y64, y65, y66, y67, y68, y69, y70, y71, y72, y73, y74, y75, y76, y77, y78, u 79, u 80, u 81, u 82, u 83, u 84, u 85, u 86, u 87, u 88, u 89, u 90, u 91, u 92, u 93, u 94, u 95, u 96, u 97, u 98, u 99, u 100, u 101, u 102, u 103, u 104, u 105, u 106, u 107, u 108, u 109, u 110, u 111, u 112, u 113, u 114, u 115, u 116, u 117, u 118, u 119, u 120, u 121, u 122], defers := [] }
set_option maxRecDepth 100000 in
theorem over_actM16 (z1 la : Option Addr) (tn z3 un lc : Nat) (k i : Int) (N C B : Nat) (y0 y2 y6 y7 y8 y9 y13 y15 y16 y17 y18 y19 y20 y21 y22 y23 y24 y25 y26 y27 y28 y29 y30 y31 y32 y33 y34 y35 y36 y37 y38 y39 y40 y41 y42 y43 y44 y45 y46 y47 y48 y49 y50 y51 y52 y53 y54 y55 y56 y57 y58 y59 y60 y61 y62 y63 y64 y65 y66 y67 y68 y69 y70 y71 y72 y73 y74 y75 y76 y77 y78 : Value) (u0 u : Nat → Value) : over (fun s => Nat.beq s 10 || (Nat.ble 79 s && Nat.ble s 122)) u (actM16 z1 la tn z3 un lc k i N C B y0 y2 y6 y7 y8 y9 y13 y15 y16 y17 y18 y19 y20 y21 y22 y23 y24 y25 y26 y27 y28 y29 y30 y31 y32 y33 y34 y35 y36 y37 y38 y39 y40 y41 y42 y43 y44 y45 y46 y47 y48 y49 y50 y51 y52 y53 y54 y55 y56 y57 y58 y59 y60 y61 y62 y63 y64 y65 y66 y67 y68 y69 y70 y71 y72 y73 y74 y75 y76 y77 y78 u0) = actM16 z1 la tn z3 un lc k i N C B y0 y2 y6 y7 y8 y9 y13 y15 y16 y17 y18 y19 y20 y21 y22 y23 y24 y25 y26 y27 y28 y29 y30 y31 y32 y33 y34 y35 y36 y37 y38 y39 y40 y41 y42 y43 y44 y45 y46 y47 y48 y49 y50 y51 y52 y53 y54 y55 y56 y57 y58 y59 y60 y61 y62 y63 y64 y65 y66 y67 y68 y69 y70 y71 y72 y73 y74 y75 y76 y77 y78 u := rfl
def VM16 (r L A : Rw) (ts : List Ty) (k i : Int) (x1 y1 z1 la p1 q1' k1 k3 : Option Addr) (x2 x3 y2 y3 tn z3 un lc p2 p3 q2' q3' l1 k2 l2 k4 : Nat) (s : Nat) (w : World) (v : Value) : Prop := match s with
  | 79 => v = .bool true
  | 80 => v = .bool true
  | 81 => v = .agg #[.int .i64 r.kind, .slice x1 x2 x3, .int .i64 r.ty.base, .int .i64 r.idx, .slice y1 y2 y3]
  | 82 => ∃ g1 gn g2 h1 hn h2, v = rwv r.kind (.slice g1 gn g2) r.ty.base r.idx (.slice h1 hn h2) ∧ Holds w okT r.ty.args (.slice g1 gn g2) ∧ HoldsR w okT r.kids (.slice h1 hn h2)
  | 83 => v = .slice z1 tn z3
  | 84 => ∃ g1 gn g2, v = .slice g1 gn g2 ∧ Holds w okT ts (.slice g1 gn g2)
  | 85 => ∃ g1 gn g2 h1 hn h2, v = rwv L.kind (.slice g1 gn g2) L.ty.base L.idx (.slice h1 hn h2) ∧ Holds w okT L.ty.args (.slice g1 gn g2) ∧ HoldsR w okT L.kids (.slice h1 hn h2)
  | 86 => ∃ g1 gn g2 h1 hn h2, v = rwv L.kind (.slice g1 gn g2) L.ty.base L.idx (.slice h1 hn h2) ∧ Holds w okT L.ty.args (.slice g1 gn g2) ∧ HoldsR w okT L.kids (.slice h1 hn h2)
  | 87 => v = .agg #[.int .i64 L.kind, .slice p1 p2 p3, .int .i64 L.ty.base, .int .i64 L.idx, .slice q1' q2' q3']
  | 88 => v = .bool true
  | 89 => v = .bool true
  | 90 => v = .bool true
  | 91 => v = .agg #[.int .i64 r.kind, .slice x1 x2 x3, .int .i64 r.ty.base, .int .i64 r.idx, .slice y1 y2 y3]
  | 92 => ∃ g1 gn g2 h1 hn h2, v = rwv r.kind (.slice g1 gn g2) r.ty.base r.idx (.slice h1 hn h2) ∧ Holds w okT r.ty.args (.slice g1 gn g2) ∧ HoldsR w okT r.kids (.slice h1 hn h2)
  | 93 => v = .slice la un lc
  | 94 => ∃ g1 gn g2 h1 hn h2, v = rwv A.kind (.slice g1 gn g2) A.ty.base A.idx (.slice h1 hn h2) ∧ Holds w okT A.ty.args (.slice g1 gn g2) ∧ HoldsR w okT A.kids (.slice h1 hn h2)
  | 95 => ∃ g1 gn g2 h1 hn h2, v = rwv A.kind (.slice g1 gn g2) A.ty.base A.idx (.slice h1 hn h2) ∧ Holds w okT A.ty.args (.slice g1 gn g2) ∧ HoldsR w okT A.kids (.slice h1 hn h2)
  | 96 => v = .agg #[.int .i64 A.kind, .slice k1 l1 k2, .int .i64 A.ty.base, .int .i64 A.idx, .slice k3 l2 k4]
  | 97 => v = .bool true
  | 98 => v = .bool true
  | 99 => v = .bool true
  | 100 => v = .int .i64 k
  | 101 => v = .int .i64 i
  | 102 => v = rwv k (.slice none 0 0) 0 i (.slice none 0 0)
  | 103 => v = .int .i64 k
  | 104 => v = .int .i64 k
  | 105 => v = .bool true
  | 106 => v = .bool true
  | 107 => v = .bool true
  | 108 => v = .int .i64 k
  | 109 => v = .int .i64 i
  | 110 => v = rwv k (.slice none 0 0) 0 i (.slice none 0 0)
  | 111 => v = .int .i64 i
  | 112 => v = .int .i64 i
  | 113 => v = .bool true
  | 114 => v = .bool true
  | 115 => v = .bool true
  | 116 => v = .int .i64 k
  | 117 => v = .int .i64 i
  | 118 => v = rwv k (.slice none 0 0) 0 i (.slice none 0 0)
  | 119 => v = .slice none 0 0
  | 120 => v = .int .i64 0
  | 121 => v = .bool true
  | 122 => v = .bool true
  | 10 => v = .bool true
  | _ => True
theorem VM16.mono {r L A : Rw} {ts : List Ty} {k i : Int} {x1 y1 z1 la p1 q1' k1 k3 : Option Addr} {x2 x3 y2 y3 tn z3 un lc p2 p3 q2' q3' l1 k2 l2 k4 : Nat} {s : Nat} {w w' : World} {v : Value} (h : VM16 r L A ts k i x1 y1 z1 la p1 q1' k1 k3 x2 x3 y2 y3 tn z3 un lc p2 p3 q2' q3' l1 k2 l2 k4 s w v) (hb : Below w.heap.size w w') : VM16 r L A ts k i x1 y1 z1 la p1 q1' k1 k3 x2 x3 y2 y3 tn z3 un lc p2 p3 q2' q3' l1 k2 l2 k4 s w' v := by
  revert h
  unfold VM16
  split <;> intro h
  · exact h
  · exact h
  · exact h
  · obtain ⟨g1, gn, g2, h1, hn, h2, e, j1, j2⟩ := h; exact ⟨g1, gn, g2, h1, hn, h2, e, j1.bel hb, j2.bel hb⟩
  · exact h
  · obtain ⟨g1, gn, g2, e, j1⟩ := h; exact ⟨g1, gn, g2, e, j1.bel hb⟩
  · obtain ⟨g1, gn, g2, h1, hn, h2, e, j1, j2⟩ := h; exact ⟨g1, gn, g2, h1, hn, h2, e, j1.bel hb, j2.bel hb⟩
  · obtain ⟨g1, gn, g2, h1, hn, h2, e, j1, j2⟩ := h; exact ⟨g1, gn, g2, h1, hn, h2, e, j1.bel hb, j2.bel hb⟩
  · exact h
  · exact h
  · exact h
  · exact h
  · exact h
  · obtain ⟨g1, gn, g2, h1, hn, h2, e, j1, j2⟩ := h; exact ⟨g1, gn, g2, h1, hn, h2, e, j1.bel hb, j2.bel hb⟩
  · exact h
  · obtain ⟨g1, gn, g2, h1, hn, h2, e, j1, j2⟩ := h; exact ⟨g1, gn, g2, h1, hn, h2, e, j1.bel hb, j2.bel hb⟩
  · obtain ⟨g1, gn, g2, h1, hn, h2, e, j1, j2⟩ := h; exact ⟨g1, gn, g2, h1, hn, h2, e, j1.bel hb, j2.bel hb⟩
  · exact h
  · exact h
  · exact h
  · exact h
  · exact h
  · exact h
  · exact h
  · exact h
  · exact h
  · exact h
  · exact h
  · exact h
  · exact h
  · exact h
  · exact h
  · exact h
  · exact h
  · exact h
  · exact h
  · exact h
  · exact h
  · exact h
  · exact h
  · exact h
  · exact h
  · exact h
  · exact h
  · exact h
  · trivial

theorem smallB_ctx {ts : List Ty} (h : smallB [] [] ts = true) : sizeL ts ≤ 1200 := by
  unfold smallB at h
  simp only [Bool.and_eq_true, Bool.not_eq_true', Bool.or_eq_false_iff, decide_eq_false_iff_not, List.all_append, List.all_eq_true] at h
  obtain ⟨⟨_, h3⟩, _, h6⟩ := h
  have k3 := sizeL_le ts 60 fun u hu => by have := h6 u hu; unfold fewB at this; simp at this; exact this.1
  omega
set_option maxRecDepth 100000 in
set_option maxHeartbeats 8000000 in
theorem Makes_calls (r : Rw) (ts0 : List Ty) (us0 : List Rw) (k i : Int) (sb sr st sa : Value) (w : World) (hb : Holds w okT r.ty.args sb) (hr : HoldsR w okT r.kids sr) (ht : Holds w okT ts0 st) (ha : HoldsR w okT us0 sa) (hlt : ts0.length ≤ 9223372036854775807) (hla : us0.length ≤ 9223372036854775807) :
    Calls Try.prog 4 #[rwv r.kind sb r.ty.base r.idx sr, st, sa, .int .i64 k, .int .i64 i] w fun e w' => e = .returned (.bool true) ∧ Below w.heap.size w w' := by
  obtain ⟨x1, x3, rfl, _⟩ := hb.shape
  obtain ⟨y1, y3, rfl, _⟩ := hr.shape
  obtain ⟨z1, z3, rfl, hz3, _⟩ := ht.shape
  obtain ⟨v1, v3, rfl, hv3, _⟩ := ha.shape
  obtain ⟨x2, hx2⟩ : ∃ n, r.ty.args.length = n := ⟨_, rfl⟩
  obtain ⟨y2, hy2⟩ : ∃ n, r.kids.length = n := ⟨_, rfl⟩
  obtain ⟨z0, hz0⟩ : ∃ n, ts0.length = n := ⟨_, rfl⟩
  obtain ⟨v0, hv0⟩ : ∃ n, us0.length = n := ⟨_, rfl⟩
  rw [hx2] at hb ⊢
  rw [hy2] at hr ⊢
  rw [hz0] at hlt hz3 ⊢
  rw [hv0] at hla hv3 ⊢
  obtain ⟨zn, hzn⟩ : ∃ n, min z0 10 = n := ⟨_, rfl⟩
  obtain ⟨vn, hvn⟩ : ∃ n, min v0 10 = n := ⟨_, rfl⟩
  have f1 : (min (z0 : Int) 10).toNat = zn := by omega
  have f2 : min (z0 : Int) 10 ≤ (z3 : Int) := by omega
  have f3 : (0 : Int) ≤ min (z0 : Int) 10 := by omega
  have f4 : (min (v0 : Int) 10).toNat = vn := by omega
  have f5 : min (v0 : Int) 10 ≤ (v3 : Int) := by omega
  have f6 : (0 : Int) ≤ min (v0 : Int) 10 := by omega
  obtain ⟨ts, hts⟩ : ∃ l, ts0.take zn = l := ⟨_, rfl⟩
  obtain ⟨us, hus⟩ : ∃ l, us0.take vn = l := ⟨_, rfl⟩
  have HTL : Hid (ts.length = zn ∧ zn ≤ 10) := ⟨by rw [← hts, List.length_take, hz0]; omega, by omega⟩
  have HAL : Hid (us.length = vn ∧ vn ≤ 10) := ⟨by rw [← hus, List.length_take, hv0]; omega, by omega⟩
  have ht' : Holds w okT ts (.slice z1 zn z3) := by
    rw [← hts]
    exact ht.take zn (by omega) z3 (by omega) (fun e => by subst e; exact ht.isnil.2.1)
  have ha' : HoldsR w okT us (.slice v1 vn v3) := by
    rw [← hus]
    exact ha.take vn (by omega) v3 (by omega) (fun e => by subst e; exact ha.isnil.2.1)
  obtain ⟨N, hN⟩ : ∃ N, w.heap.size = N := ⟨_, rfl⟩
  rw [hN]
  obtain ⟨W0, hW0⟩ : ∃ W0, w.alloc (.cells #[.int .i64 r.kind, .slice x1 x2 x3, .int .i64 r.ty.base, .int .i64 r.idx, .slice y1 y2 y3] 27) = W0 := ⟨_, rfl⟩
  have b0 : Blk W0 N 27 #[.int .i64 r.kind, .slice x1 x2 x3, .int .i64 r.ty.base, .int .i64 r.idx, .slice y1 y2 y3] := by rw [← hW0]; exact Blk.new' w N 27 _ hN
  have hz00 : W0.heap.size = N + 1 := by rw [← hW0]; simp [hN]
  have bl0 : Below N w W0 := by rw [← hW0]; exact (Below.refl N w).alloc (by omega) _
  have hb0 := (hb.mono (ok' := fun b => b < N) fun b h _ => hN ▸ h).bel (hN ▸ bl0)
  have hr0 := (hr.mono (ok' := fun b => b < N) fun b h _ => hN ▸ h).bel (hN ▸ bl0)
  have ht0 := (ht'.mono (ok' := fun b => b < N) fun b h _ => hN ▸ h).bel (hN ▸ bl0)
  have ha0 := (ha'.mono (ok' := fun b => b < N) fun b h _ => hN ▸ h).bel (hN ▸ bl0)
  have HW : Hid _ := hW0
  clear hW0 hb hr ht ha ht' ha' hts hus hz0 hv0 hzn hvn hx2 hy2
  go_enter Try.func4, Try.ntmps4
  go_upto_region 1 with fail
  rw [HW.out]
  clear HW
  have e1 : (if (10 : Int) < (z0 : Int) then (10 : Int) else (z0 : Int)).toNat = zn := by split <;> omega
  have e2 : (if (10 : Int) < (v0 : Int) then (10 : Int) else (v0 : Int)).toNat = vn := by split <;> omega
  go_quiet (fail)
  have bl1 : Below N w (W0.drewN nq) := below_drewN bl0 nq
  have b1 : Blk (W0.drewN nq) N 27 #[.int .i64 r.kind, .slice x1 x2 x3, .int .i64 r.ty.base, .int .i64 r.idx, .slice y1 y2 y3] := b0.below (below_drewN (Below.refl _ W0) nq) b0.lt
  have hb1 := hb0.bel (below_drewN (Below.refl _ W0) nq)
  have hr1 := hr0.bel (below_drewN (Below.refl _ W0) nq)
  have ht1 := ht0.bel (below_drewN (Below.refl _ W0) nq)
  have ha1 := ha0.bel (below_drewN (Below.refl _ W0) nq)
  have hz1 : (W0.drewN nq).heap.size = N + 1 := hz00
  generalize W0.drewN nq = W1 at *
  clear f1 f2 f3 f4 f5 f6 e1 e2 b0 bl0 hb0 hr0 ht0 ha0 hz00 hz3 hv3 hlt hla hN
  generalize (if (10 : Int) < (z0 : Int) then (10 : Int) else (z0 : Int)) = q1
  generalize (if (10 : Int) < (v0 : Int) then (10 : Int) else (v0 : Int)) = q2
  obtain ⟨W2, hW2⟩ : ∃ W2, W1.alloc (.cells #[.int .i64 r.kind, .slice x1 x2 x3, .int .i64 r.ty.base, .int .i64 r.idx, .slice y1 y2 y3] 27) = W2 := ⟨_, rfl⟩
  have bb2 : Below W1.heap.size W1 W2 := by rw [← hW2]; exact (Below.refl _ _).alloc (Nat.le_refl _) _
  have hF2 : HoldsR W2 okT [r] (.slice (some ⟨N + 1, 0, none⟩) 1 1) := holdsR_one (by rw [← hW2]; exact Blk.new' W1 (N + 1) 27 _ hz1) trivial (hb1.t.bel bb2) (hr1.t.bel bb2)
  obtain ⟨r1, hr1'⟩ : ∃ q, fewRB 300 70 r = q := ⟨_, rfl⟩
  obtain ⟨r2, hr2'⟩ : ∃ q, us.all (fewRB 300 70) = q := ⟨_, rfl⟩
  obtain ⟨r3, hr3'⟩ : ∃ q, smallB [] [] ts = q := ⟨_, rfl⟩
  have hfl := FewL_calls [r] okT _ W2 hF2 (by simp)
  rw [show [r].all (fewRB 300 70) = r1 by rw [← hr1']; simp] at hfl
  have HR1 : Hid _ := hr1'
  have HR2 : Hid _ := hr2'
  have HR3 : Hid _ := hr3'
  have hfa := fun (cur : World) (h : Cur W1 cur) => FewL_calls us okT _ cur (HoldsR.t (h.holdsR ha1)) (by have := HAL.out; omega)
  simp only [hr2'] at hfa
  have hsm := fun (cur : World) (h : Cur W1 cur) => Small_calls [] [] ts 0 (.slice none 0 0) (.slice none 0 0) (.slice z1 zn z3) cur (Holds.nil _ _ _ _ (fun _ => rfl)) (Holds.nil _ _ _ _ (fun _ => rfl)) (h.holds ht1).t
  simp only [hr3'] at hsm
  have HW2 : Hid _ := hW2
  have c0 := b1.cell 0
  have c1' := b1.cell 1
  have c2' := b1.cell 2
  have c3 := b1.cell 3
  have c4 := b1.cell 4
  have hzN : N ≤ W1.heap.size := by omega
  clear hW2 hr1' hr2' hr3' hF2
  go_upto_region 2 with fail
  go_wp2_with fail
  rw [HW2.out]
  clear HW2
  refine hfl.mono ?_
  rintro e w1 ⟨rfl, hb1'⟩
  have hc1 : Cur W1 w1 := (show Cur W1 W2 from bb2).then hb1'
  clear hfl hb1' bb2 c0 c1' c2' c3 c4
  cases r1 with
  | false =>
    go_wp2_with fail
    refine (known_calls _).mono ?_
    rintro e w4 ⟨rfl, hb4⟩
    go_wp2
    go_ret
    exact ⟨rfl, bl1.trans (Below.mono (hc1.then hb4) hzN)⟩
  | true =>
  have htr := total_of_few HR1.out
  have hs2 := hfa w1 hc1
  clear hfa HR1
  go_wp2_with fail
  refine hs2.mono ?_
  rintro e w2 ⟨rfl, hb2⟩
  have hc2 : Cur W1 w2 := hc1.then hb2
  clear hs2 hb2 hc1
  cases r2 with
  | false =>
    go_wp2_with fail
    refine (known_calls _).mono ?_
    rintro e w4 ⟨rfl, hb4⟩
    go_wp2
    go_ret
    exact ⟨rfl, bl1.trans (Below.mono (hc2.then hb4) hzN)⟩
  | true =>
  have hua : ∀ u ∈ us, u.total ≤ 300 := fun u hu => total_of_few (List.all_eq_true.1 HR2.out u hu)
  have hs3 := hsm w2 hc2
  clear hsm HR2
  go_wp2_with fail
  refine hs3.mono ?_
  rintro e w3 ⟨rfl, hb3⟩
  have hc3 : Cur W1 w3 := hc2.then hb3
  clear hs3 hb3 hc2
  cases r3 with
  | false =>
    go_wp2_with fail
    refine (known_calls _).mono ?_
    rintro e w4 ⟨rfl, hb4⟩
    go_wp2
    go_ret
    exact ⟨rfl, bl1.trans (Below.mono (hc3.then hb4) hzN)⟩
  | true =>
  have htz : sizeL ts ≤ 1200 := (smallB_ctx HR3.out)
  clear HR3
  have b3 := b1.below hc3 b1.lt
  have hb3 := hc3.holds hb1
  have hr3 := hc3.holdsR hr1
  have ht3 := hc3.holds ht1
  have ha3 := hc3.holdsR ha1
  have bl3 : Below N w w3 := bl1.trans (Below.mono hc3 hzN)
  have hz3 : N + 1 ≤ w3.heap.size := by have := Below.size hc3; omega
  have HTR : Hid (r.total ≤ 300) := htr
  have HUA : Hid (∀ u ∈ us, u.total ≤ 300) := hua
  have HTZ : Hid (sizeL ts ≤ 1200) := htz
  clear b1 hb1 hr1 ht1 ha1 hc3 hz1 hzN bl1 htr hua htz
  obtain ⟨C, hC⟩ : ∃ C, w3.heap.size = C := ⟨_, rfl⟩
  obtain ⟨W4, hW4⟩ : ∃ W4, w3.alloc (.cells #[.int .i64 r.kind, .slice x1 x2 x3, .int .i64 r.ty.base, .int .i64 r.idx, .slice y1 y2 y3] 27) = W4 := ⟨_, rfl⟩
  have bb4 : Below w3.heap.size w3 W4 := by rw [← hW4]; exact (Below.refl _ _).alloc (Nat.le_refl _) _
  have bC : Blk W4 C 27 #[.int .i64 r.kind, .slice x1 x2 x3, .int .i64 r.ty.base, .int .i64 r.idx, .slice y1 y2 y3] := by rw [← hW4]; exact Blk.new' w3 C 27 _ hC
  have hNC : N < C := by omega
  have hx0 : Bxd W4 C (fun b => C < b) (appsR r (us.take 0)) := ⟨x1, x2, x3, y1, y2, y3, bC, (hb3.bel bb4).mono fun b h1 h2 => ⟨by omega, by omega⟩, (hr3.bel bb4).mono fun b h1 h2 => ⟨by omega, by omega⟩⟩
  have bN := b3.below bb4 b3.lt
  have hb4 := hb3.bel bb4
  have hr4 := hr3.bel bb4
  have ht4 := ht3.bel bb4
  have ha4 := ha3.bel bb4
  have bl4 : Below N w W4 := bl3.trans (bb4.mono (by omega))
  have hz4 : W4.heap.size = C + 1 := by rw [← hW4]; simp [hC]
  have d0 := b3.cell 0
  have d1 := b3.cell 1
  have d2 := b3.cell 2
  have d3 := b3.cell 3
  have d4 := b3.cell 4
  have HW4 : Hid _ := hW4
  clear hW4 b3 hb3 hr3 ht3 ha3 bb4 bC bl3 hz3
  go_upto_region 6 with fail
  rw [HW4.out]
  clear HW4 d0 d1 d2 d3 d4 hC
  go_wp2_with fail
  have hx1 : Bxd W4 C (fun b => (Value.slice none 0 0).ownBlock = some b) (appsR r (us.take 0)) := hx0.keep rfl fun b _ h => ⟨rfl, fun e => by cases e⟩
  obtain ⟨i0, hi, hzz0, hzz1, hzz2⟩ := info_parts info35
  obtain ⟨hvl, hv10⟩ := HAL.out
  subst hvl
  have HUL : Hid (us.length ≤ 10) := hv10
  clear HAL hv10 hx0
  go_loopw [11, 13] (fun ov iv wr => ∃ (j : Nat) (vk : Value) (ps : List Rc), j ≤ us.length ∧ iv = .int .i64 j ∧ ov = vk ∧ Hid (ps.map (·.t) = us.take j) ∧ MkR wr (C + 1) 35 vk ps ∧ Bxd wr C (fun b => vk.ownBlock = some b) (appsR r (us.take j)) ∧ Blk wr N 27 #[.int .i64 r.kind, .slice x1 x2 x3, .int .i64 r.ty.base, .int .i64 r.idx, .slice y1 y2 y3] ∧ C + 1 ≤ wr.heap.size ∧ Below N w wr)
    (fun _ iv _ => us.length - (intOf iv).toNat)
  case atStart => exact ⟨0, _, [], Nat.zero_le _, rfl, rfl, rfl, MkR.nil _ _ _, hx1, bN, by omega, bl4⟩
  case round =>
    clear hx1 bN
    obtain ⟨j, vk, ps, hj, rfl, rfl, HP, hmk, hbx, hbN, hMw, hbl⟩ := hrel
    have hpl : ps.length = j := by have := congrArg List.length HP.out; simp at this; omega
    have HKK : Hid (ps.length = j) := hpl
    clear hpl
    have hNw : N ≤ wr.heap.size := by omega
    by_cases hlt : j < us.length
    · obtain ⟨u, hu⟩ : ∃ u, us[j]? = some u := ⟨_, List.getElem?_eq_getElem hlt⟩
      have hA : HoldsR wr (fun b => b < N) us (.slice v1 us.length v3) := ha4.keep fun b _ ho => ⟨(hbl.block b ho).trans (bl4.block b ho).symm, ho⟩
      obtain ⟨a9, c9, e9, _, hat⟩ := hA.shape
      cases e9
      obtain ⟨g, o, s, rr, rfl, hgN, hg, a0, a1, a2, a3, a4, hs, hsr⟩ := hat j u hu
      obtain ⟨s1, s2, rfl, _⟩ := hs.shape
      obtain ⟨s3, s4, rfl, _⟩ := hsr.shape
      obtain ⟨un, hun⟩ : ∃ n, u.ty.args.length = n := ⟨_, rfl⟩
      obtain ⟨um, hum⟩ : ∃ n, u.kids.length = n := ⟨_, rfl⟩
      rw [hun] at hs a1
      rw [hum] at hsr a4
      have hm := List.mem_of_getElem? hu
      have hut := HUA.out u hm
      have hul := HUL.out
      have yy1 : (0 : Int) ≤ (j : Int) := by omega
      have yy2 : (j : Int) < (us.length : Int) := by omega
      have HP2 : Hid (ps.map (·.t) ++ [u] = us.take (j + 1)) := by show _ = _; rw [HP.out, List.take_add_one, hu]; rfl
      have HAP : Hid (appsR r (us.take (j + 1)) = appR (appsR r (us.take j)) u) := appsR_take hu
      have HL : Hid (∀ b, u11.ownBlock = some b → b < wr.heap.size) := fun b hb => (hmk.lt b hb).2
      have hcall := ToR_calls u _ _ _ wr hs hsr (by omega)
      have HUN : Hid (u.ty.args.length = un ∧ u.kids.length = um) := ⟨hun, hum⟩
      have hnC : u11.ownBlock ≠ some C := fun e => by have := (hmk.lt C e).1; omega
      have hnN : u11.ownBlock ≠ some N := fun e => by have := (hmk.lt N e).1; omega
      clear hat hu HP hA hun hum
      go_wp2_with (first
        | (go_at_call 10; refine hcall.mono ?_; rintro e w2 ⟨vb2, vr2, rfl, hvb2, hvr2, hbb⟩; obtain ⟨p1, p2, rfl, _⟩ := hvb2.shape; obtain ⟨p3, p4, rfl, _⟩ := hvr2.shape; generalize u.ty.args.length = en at *; generalize u.kids.length = em at *; have hmk2 := hmk.bel hbb; have hwz : wr.heap.size ≤ w2.heap.size := hbb.size)
        | (at_builtin; refine wpList_append_lies _ rfl _ _ 33 rfl (C + 1) 35 i0 _ 5 72 Try.underlying33 hi hzz0 hzz1 hzz2 rfl (by decide) _ j (rcells ps) rfl (by have := hmk2.row.alloc (.cells #[.int .i64 u.kind, .slice p1 en p2, .int .i64 u.ty.base, .int .i64 u.idx, .slice p3 em p4] 35); rwa [HKK.out] at this) ⟨w2.heap.size, 0, none⟩ 1 1 [.int .i64 u.kind, .slice p1 en p2, .int .i64 u.ty.base, .int .i64 u.idx, .slice p3 em p4] rfl rfl (cell_five_new _ _ _ _ _ _ _) (by simp [Value.oneCell']) (by omega) (by unfold maxLen; omega) (by omega) (by simp; omega) _ rfl ?_; intro g2 cap2 w3 hown3 hgrow3 hat3 hlt3))
      have hB2 : Below N w w2 := hbl.trans (hbb.mono hNw)
      have hB3 : Below N w w3 := (hB2.alloc (by omega) _).grown hgrow3 (by simp; omega) (fun j hj => by have := (hmk2.lt j hj).1; omega)
      have hmk3 := (hmk2.alloc (.cells #[.int .i64 u.kind, .slice p1 en p2, .int .i64 u.ty.base, .int .i64 u.idx, .slice p3 em p4] 35)).snoc (cap := cap2) (x := ⟨.slice p1 en p2, .slice p3 em p4, u⟩) HKK.out (hvb2.alloc _) (hvr2.alloc _) hMw HL.out hgrow3 hat3 hown3
      have hkeep : ∀ b, b < wr.heap.size → u11.ownBlock ≠ some b → w3.heap[b]? = wr.heap[b]? := fun b hb hn =>
        (hgrow3.block b (by simp; omega) (fun e => hn e.symm)).trans ((((Below.refl w2.heap.size w2).alloc (Nat.le_refl _) (.cells #[.int .i64 u.kind, .slice p1 en p2, .int .i64 u.ty.base, .int .i64 u.idx, .slice p3 em p4] 35)).block b (by omega)).trans (hbb.block b hb))
      have hgz : g2 < w3.heap.size := hlt3
      have hnew : ∀ b, b < wr.heap.size → u11.ownBlock ≠ some b → (some g2 : Option Nat) ≠ some b := fun b hb hn e => by
        cases e
        rcases hat3 with h1 | h1
        · exact hn h1
        · have h2 := h1; simp at h2; omega
      have hold : ∀ b, b < N → u11.ownBlock ≠ some b := fun b hb e => by have := (hmk.lt b e).1; omega
      have bx3 : Bxd w3 C (fun b => (some g2 : Option Nat) = some b) (appsR r (us.take j)) := hbx.keep (hkeep C (by omega) hnC) (fun b hb hn => ⟨hkeep b hb hn, hnew b hb hn⟩)
      have bN3 : Blk w3 N 27 #[.int .i64 r.kind, .slice x1 x2 x3, .int .i64 r.ty.base, .int .i64 r.idx, .slice y1 y2 y3] := (hkeep N (by omega) hnN).trans hbN
      have hs3 : Holds w3 (fun b => b < N) u.ty.args (.slice s1 un s2) := hs.keep fun b hb ho => ⟨hkeep b hb (hold b ho), ho⟩
      have hsr3 : HoldsR w3 (fun b => b < N) u.kids (.slice s3 um s4) := hsr.keep fun b hb ho => ⟨hkeep b hb (hold b ho), ho⟩
      have i0' := (World.cell?_of_block (w := wr) (a := ⟨g, o + j * 5, none⟩) (hkeep g hg (hold g hgN))).trans a0
      have i1' := (World.cell?_of_block (w := wr) (a := ⟨g, o + j * 5 + 1, none⟩) (hkeep g hg (hold g hgN))).trans a1
      have i2' := (World.cell?_of_block (w := wr) (a := ⟨g, o + j * 5 + 2, none⟩) (hkeep g hg (hold g hgN))).trans a2
      have i3' := (World.cell?_of_block (w := wr) (a := ⟨g, o + j * 5 + 3, none⟩) (hkeep g hg (hold g hgN))).trans a3
      have i4' := (World.cell?_of_block (w := wr) (a := ⟨g, o + j * 5 + 4, none⟩) (hkeep g hg (hold g hgN))).trans a4
      have hMw3 : C + 1 ≤ w3.heap.size := by have := hgrow3.size; simp at this; omega
      have hgC : C + 1 ≤ g2 := (hmk3.lt g2 rfl).1
      generalize hV : appsR r (us.take j) = v at *
      obtain ⟨k1, l1, k2, k3, l2, k4, hc1, hc2, hc3⟩ := bx3.ex
      have j0 := hc1.cell 0
      have j1 := hc1.cell 1
      have j2 := hc1.cell 2
      have j3 := hc1.cell 3
      have j4 := hc1.cell 4
      obtain ⟨X, hX⟩ : ∃ X, w3.heap.size = X := ⟨_, rfl⟩
      have hAl : Below w3.heap.size w3 (w3.alloc (.cells #[.int .i64 v.kind, .slice k1 l1 k2, .int .i64 v.ty.base, .int .i64 v.idx, .slice k3 l2 k4, .int .i64 u.kind, .slice s1 un s2, .int .i64 u.ty.base, .int .i64 u.idx, .slice s3 um s4] 27)) := (Below.refl _ _).alloc (Nat.le_refl _) _
      have mC := hc1.below hAl hc1.lt
      have mX : Blk (w3.alloc (.cells #[.int .i64 v.kind, .slice k1 l1 k2, .int .i64 v.ty.base, .int .i64 v.idx, .slice k3 l2 k4, .int .i64 u.kind, .slice s1 un s2, .int .i64 u.ty.base, .int .i64 u.idx, .slice s3 um s4] 27)) X 27 #[.int .i64 v.kind, .slice k1 l1 k2, .int .i64 v.ty.base, .int .i64 v.idx, .slice k3 l2 k4, .int .i64 u.kind, .slice s1 un s2, .int .i64 u.ty.base, .int .i64 u.idx, .slice s3 um s4] := Blk.new' w3 X 27 _ hX
      have mN := bN3.below hAl bN3.lt
      have mB : Below N w (w3.alloc (.cells #[.int .i64 v.kind, .slice k1 l1 k2, .int .i64 v.ty.base, .int .i64 v.idx, .slice k3 l2 k4, .int .i64 u.kind, .slice s1 un s2, .int .i64 u.ty.base, .int .i64 u.idx, .slice s3 um s4] 27)) := hB3.trans (hAl.mono (by omega))
      have mk4 := hmk3.alloc (.cells #[.int .i64 v.kind, .slice k1 l1 k2, .int .i64 v.ty.base, .int .i64 v.idx, .slice k3 l2 k4, .int .i64 u.kind, .slice s1 un s2, .int .i64 u.ty.base, .int .i64 u.idx, .slice s3 um s4] 27)
      have hv1 := hc2.bel hAl
      have hv2 := hc3.bel hAl
      have hu1 := hs3.bel hAl
      have hu2 := hsr3.bel hAl
      have hzA : (w3.alloc (.cells #[.int .i64 v.kind, .slice k1 l1 k2, .int .i64 v.ty.base, .int .i64 v.idx, .slice k3 l2 k4, .int .i64 u.kind, .slice s1 un s2, .int .i64 u.ty.base, .int .i64 u.idx, .slice s3 um s4] 27)).heap.size = X + 1 := by simp [hX]
      have f0 := mC.frozen 0
      have f1 := mC.frozen 1
      have f2 := mC.frozen 2
      have f3 := mC.frozen 3
      have f4 := mC.frozen 4
      have e0 := mC.cell 0
      have e1 := mC.cell 1
      have e2 := mC.cell 2
      have e3 := mC.cell 3
      have e4 := mC.cell 4
      clear hown3 hgrow3 hat3 hlt3 hB2 hB3 hmk2 hmk3 hbb hvb2 hvr2 hs hsr hs3 hsr3 a0 a1 a2 a3 a4 hkeep hnew hold hbN bN3 hbl hnC hnN hAl hc1 hc2 hc3 bx3
      go_region
      have hng : ∀ b, b < N → ¬ (some g2 : Option Nat) = some b := fun b hb e => by injection e with e; omega
      have hgX' : ¬ (some g2 : Option Nat) = some X := fun e => by injection e with e; omega
      have bC5 := (((((mC.set 0 (.int .i64 4)).set 1 (.slice none 0 0)).set 2 (.int .i64 0)).set 3 (.int .i64 0)).set 4 (.slice (some ⟨X, 0, none⟩) 2 2))
      have bX5 := (((((mX.other (B' := C) (by omega) 0 (.int .i64 4)).other (B' := C) (by omega) 1 (.slice none 0 0)).other (B' := C) (by omega) 2 (.int .i64 0)).other (B' := C) (by omega) 3 (.int .i64 0)).other (B' := C) (by omega) 4 (.slice (some ⟨X, 0, none⟩) 2 2))
      have bN5 := (((((mN.other (B' := C) (by omega) 0 (.int .i64 4)).other (B' := C) (by omega) 1 (.slice none 0 0)).other (B' := C) (by omega) 2 (.int .i64 0)).other (B' := C) (by omega) 3 (.int .i64 0)).other (B' := C) (by omega) 4 (.slice (some ⟨X, 0, none⟩) 2 2))
      have mk5 := (((((mk4.set (R := C) (by omega) 0 (.int .i64 4)).set (R := C) (by omega) 1 (.slice none 0 0)).set (R := C) (by omega) 2 (.int .i64 0)).set (R := C) (by omega) 3 (.int .i64 0)).set (R := C) (by omega) 4 (.slice (some ⟨X, 0, none⟩) 2 2))
      have hv5 := holds_set5 (g := C) (ok' := fun b => b ≠ C ∧ ¬ (some g2 : Option Nat) = some b) hv1 (fun b _ h => ⟨h.1, h⟩) (.int .i64 4) (.slice none 0 0) (.int .i64 0) (.int .i64 0) (.slice (some ⟨X, 0, none⟩) 2 2)
      have hw5 := holdsR_set5 (g := C) (ok' := fun b => b ≠ C ∧ ¬ (some g2 : Option Nat) = some b) hv2 (fun b _ h => ⟨h.1, h⟩) (.int .i64 4) (.slice none 0 0) (.int .i64 0) (.int .i64 0) (.slice (some ⟨X, 0, none⟩) 2 2)
      have hu5 := holds_set5 (g := C) (ok' := fun b => b ≠ C ∧ ¬ (some g2 : Option Nat) = some b) hu1 (fun b _ h => ⟨by omega, by omega, hng b h⟩) (.int .i64 4) (.slice none 0 0) (.int .i64 0) (.int .i64 0) (.slice (some ⟨X, 0, none⟩) 2 2)
      have hx5 := holdsR_set5 (g := C) (ok' := fun b => b ≠ C ∧ ¬ (some g2 : Option Nat) = some b) hu2 (fun b _ h => ⟨by omega, by omega, hng b h⟩) (.int .i64 4) (.slice none 0 0) (.int .i64 0) (.int .i64 0) (.slice (some ⟨X, 0, none⟩) 2 2)
      have B5 : Below N w ((((((w3.alloc (.cells #[.int .i64 v.kind, .slice k1 l1 k2, .int .i64 v.ty.base, .int .i64 v.idx, .slice k3 l2 k4, .int .i64 u.kind, .slice s1 un s2, .int .i64 u.ty.base, .int .i64 u.idx, .slice s3 um s4] 27)).setCell ⟨C, 0, none⟩ (.int .i64 4)).setCell ⟨C, 1, none⟩ (.slice none 0 0)).setCell ⟨C, 2, none⟩ (.int .i64 0)).setCell ⟨C, 3, none⟩ (.int .i64 0)).setCell ⟨C, 4, none⟩ (.slice (some ⟨X, 0, none⟩) 2 2)) := (bset (bset (bset (bset (bset mB (by omega) _) (by omega) _) (by omega) _) (by omega) _) (by omega) _)
      have hz5 : C + 1 ≤ (((((((w3.alloc (.cells #[.int .i64 v.kind, .slice k1 l1 k2, .int .i64 v.ty.base, .int .i64 v.idx, .slice k3 l2 k4, .int .i64 u.kind, .slice s1 un s2, .int .i64 u.ty.base, .int .i64 u.idx, .slice s3 um s4] 27)).setCell ⟨C, 0, none⟩ (.int .i64 4)).setCell ⟨C, 1, none⟩ (.slice none 0 0)).setCell ⟨C, 2, none⟩ (.int .i64 0)).setCell ⟨C, 3, none⟩ (.int .i64 0)).setCell ⟨C, 4, none⟩ (.slice (some ⟨X, 0, none⟩) 2 2))).heap.size := by have := bX5.lt; omega
      have hpair := holdsR_pairE (f := v) (a := u) (e := 27) (ok := fun b => b ≠ C ∧ ¬ (some g2 : Option Nat) = some b) bX5 ⟨by omega, hgX'⟩ hv5 hw5 hu5 hx5
      clear mC mX mN mk4 hv1 hv2 hu1 hu2 hv5 hw5 hu5 hx5 bX5 e0 e1 e2 e3 e4 f0 f1 f2 f3 f4 j0 j1 j2 j3 j4 i0' i1' i2' i3' i4' mB hzA
      generalize ((((((w3.alloc (.cells #[.int .i64 v.kind, .slice k1 l1 k2, .int .i64 v.ty.base, .int .i64 v.idx, .slice k3 l2 k4, .int .i64 u.kind, .slice s1 un s2, .int .i64 u.ty.base, .int .i64 u.idx, .slice s3 um s4] 27)).setCell ⟨C, 0, none⟩ (.int .i64 4)).setCell ⟨C, 1, none⟩ (.slice none 0 0)).setCell ⟨C, 2, none⟩ (.int .i64 0)).setCell ⟨C, 3, none⟩ (.int .i64 0)).setCell ⟨C, 4, none⟩ (.slice (some ⟨X, 0, none⟩) 2 2)) = W5 at *
      have bx5 : Bxd W5.drew C (fun b => (Value.slice (some ⟨g2, 0, none⟩) (j + 1) cap2).ownBlock = some b) (appR v u) := ⟨none, 0, 0, some ⟨X, 0, none⟩, 2, 2, bC5, Holds.nil _ _ _ _ (fun _ => rfl), hpair.drew⟩
      go_wp2
      exact ⟨⟨j + 1, _, ps ++ [⟨.slice p1 en p2, .slice p3 em p4, u⟩], by omega, by go_num, rfl, by show _ = _; rw [List.map_append]; exact HP2.out, mk5.drew, by rw [HAP.out]; exact bx5, bN5, hz5, B5.drew⟩, by simp [intOf]; omega⟩
    · obtain rfl : j = us.length := by omega
      have hh4 := hmk.holds
      rw [HP.out, List.take_length] at hh4
      rw [List.take_length] at hbx
      obtain ⟨la, lc, rfl, _⟩ := hh4.shape
      obtain ⟨B, hB⟩ : ∃ B, wr.heap.size = B := ⟨_, rfl⟩
      obtain ⟨W6, hW6⟩ : ∃ W6, wr.alloc (.cells #[.int .i64 r.kind, .slice x1 x2 x3, .int .i64 r.ty.base, .int .i64 r.idx, .slice y1 y2 y3] 27) = W6 := ⟨_, rfl⟩
      have bb6 : Below wr.heap.size wr W6 := by rw [← hW6]; exact (Below.refl _ _).alloc (Nat.le_refl _) _
      have bB6 : Blk W6 B 27 #[.int .i64 r.kind, .slice x1 x2 x3, .int .i64 r.ty.base, .int .i64 r.idx, .slice y1 y2 y3] := by rw [← hW6]; exact Blk.new' wr B 27 _ hB
      have hbr : Holds wr (fun b => b < N) r.ty.args (.slice x1 x2 x3) := hb4.keep fun b _ ho => ⟨(hbl.block b ho).trans (bl4.block b ho).symm, ho⟩
      have hrr : HoldsR wr (fun b => b < N) r.kids (.slice y1 y2 y3) := hr4.keep fun b _ ho => ⟨(hbl.block b ho).trans (bl4.block b ho).symm, ho⟩
      have htr : Holds wr (fun b => b < N) ts (.slice z1 zn z3) := ht4.keep fun b _ ho => ⟨(hbl.block b ho).trans (bl4.block b ho).symm, ho⟩
      obtain ⟨hzl, hz10⟩ := HTL.out
      subst hzl
      have hb6 : Bxd W6 B (fun _ => False) (lamsR r (ts.drop ts.length)) := by
        rw [List.drop_length]
        exact ⟨x1, x2, x3, y1, y2, y3, bB6, (hbr.bel bb6).mono fun b _ h => ⟨by omega, id⟩, (hrr.bel bb6).mono fun b _ h => ⟨by omega, id⟩⟩
      have bbB : Below B wr W6 := hB ▸ bb6
      have d0 := hbN.cell 0
      have d1 := hbN.cell 1
      have d2 := hbN.cell 2
      have d3 := hbN.cell 3
      have d4 := hbN.cell 4
      have HW6 : Hid _ := hW6
      have hz6 : B < W6.heap.size := bB6.lt
      have hCB : C < B := by omega
      have HB : Hid (wr.heap.size = B) := hB
      clear hW6 HP hmk bb6 bB6 hb4 hr4 ht4 ha4 bl4
      go_upto_region 12 with fail
      rw [HW6.out]
      clear HW6 d0 d1 d2 d3 d4 hB
      go_wp2_with fail
      go_loopw [15] (fun iv w2 => ∃ (n : Nat) (z : Int), n ≤ ts.length ∧ z = (n : Int) - 1 ∧ iv = .int .i64 z ∧ Bxd w2 B (fun _ => False) (lamsR r (ts.drop n)) ∧ Below B wr w2)
        (fun iv _ => (intOf iv + 1).toNat)
      case atStart => exact ⟨ts.length, _, Nat.le_refl _, rfl, by go_num, hb6, bbB⟩
      case round =>
        clear hb6 bbB hz6
        obtain ⟨n, z, hn, hz, rfl, hbx2, hbl2⟩ := hrel
        cases n with
        | succ m =>
          obtain rfl : z = (m : Int) := by omega
          have hlt : m < ts.length := by omega
          obtain ⟨t, ht⟩ : ∃ t, ts[m]? = some t := ⟨_, List.getElem?_eq_getElem hlt⟩
          rename World => w3
          have hA : Holds w3 (fun b => b < N) ts (.slice z1 ts.length z3) := htr.keep fun b _ ho => ⟨hbl2.block b (by omega), ho⟩
          obtain ⟨a9, c9, e9, _, hat⟩ := hA.shape
          cases e9
          obtain ⟨g, o, s, rfl, hgN, hg, a0, a1, hs⟩ := hat m t ht
          obtain ⟨s1, s2, rfl, _⟩ := hs.shape
          obtain ⟨un, hun⟩ : ∃ n, t.args.length = n := ⟨_, rfl⟩
          rw [hun] at hs a0
          have yy1 : (0 : Int) ≤ (m : Int) := by omega
          have yy2 : (m : Int) < (ts.length : Int) := by omega
          have yy3 : decide ((m : Int) ≥ 0) = true := by simp
          have HAP : Hid (lamsR r (ts.drop m) = lamR t (lamsR r (ts.drop (m + 1)))) := lamsR_drop ht
          generalize hV : lamsR r (ts.drop (m + 1)) = v at *
          obtain ⟨k1, l1, k2, k3, l2, k4, hc1, hc2, hc3⟩ := hbx2.ex
          have j0 := hc1.cell 0
          have j1 := hc1.cell 1
          have j2 := hc1.cell 2
          have j3 := hc1.cell 3
          have j4 := hc1.cell 4
          obtain ⟨X, hX⟩ : ∃ X, w3.heap.size = X := ⟨_, rfl⟩
          have hAl : Below w3.heap.size w3 (w3.alloc (.cells #[.int .i64 v.kind, .slice k1 l1 k2, .int .i64 v.ty.base, .int .i64 v.idx, .slice k3 l2 k4] 27)) := (Below.refl _ _).alloc (Nat.le_refl _) _
          have mC := hc1.below hAl hc1.lt
          have mX : Blk (w3.alloc (.cells #[.int .i64 v.kind, .slice k1 l1 k2, .int .i64 v.ty.base, .int .i64 v.idx, .slice k3 l2 k4] 27)) X 27 #[.int .i64 v.kind, .slice k1 l1 k2, .int .i64 v.ty.base, .int .i64 v.idx, .slice k3 l2 k4] := Blk.new' w3 X 27 _ hX
          have hBX : B < X := by have := hc1.lt; omega
          have mB : Below B wr (w3.alloc (.cells #[.int .i64 v.kind, .slice k1 l1 k2, .int .i64 v.ty.base, .int .i64 v.idx, .slice k3 l2 k4] 27)) := hbl2.trans (hAl.mono (by omega))
          have hv1 := hc2.bel hAl
          have hv2 := hc3.bel hAl
          have hu1 := hs.bel hAl
          have f0 := mC.frozen 0
          have f1 := mC.frozen 1
          have f2 := mC.frozen 2
          have f3 := mC.frozen 3
          have f4 := mC.frozen 4
          have n0 := (cat hAl hg).trans a0
          have n1 := (cat hAl hg).trans a1
          have e0 := mC.cell 0
          have e1 := mC.cell 1
          have e2 := mC.cell 2
          have e3 := mC.cell 3
          have e4 := mC.cell 4
          clear hat ht hA hs hc1 hc2 hc3 hAl hbx2 hbl2 hun hV hz
          have HBX : Hid (B < X) := hBX
          have hgX : g < X := by omega
          clear hBX
          go_upto_region 15 with fail
          go_region
          have hBX : B < X := HBX.out
          have bC5 := (((((mC.set 0 (.int .i64 3)).set 1 (.slice s1 un s2)).set 2 (.int .i64 t.base)).set 3 (.int .i64 0)).set 4 (.slice (some ⟨X, 0, none⟩) 1 1))
          have bX5 := (((((mX.other (B' := B) (by omega) 0 (.int .i64 3)).other (B' := B) (by omega) 1 (.slice s1 un s2)).other (B' := B) (by omega) 2 (.int .i64 t.base)).other (B' := B) (by omega) 3 (.int .i64 0)).other (B' := B) (by omega) 4 (.slice (some ⟨X, 0, none⟩) 1 1))
          have hv5 := holds_set5 (g := B) (ok' := fun b => b ≠ B ∧ ¬ False) hv1 (fun b _ h => ⟨h.1, h⟩) (.int .i64 3) (.slice s1 un s2) (.int .i64 t.base) (.int .i64 0) (.slice (some ⟨X, 0, none⟩) 1 1)
          have hw5 := holdsR_set5 (g := B) (ok' := fun b => b ≠ B ∧ ¬ False) hv2 (fun b _ h => ⟨h.1, h⟩) (.int .i64 3) (.slice s1 un s2) (.int .i64 t.base) (.int .i64 0) (.slice (some ⟨X, 0, none⟩) 1 1)
          have hu5 := holds_set5 (g := B) (ok' := fun b => b ≠ B ∧ ¬ False) hu1 (fun b _ h => ⟨by omega, by omega, id⟩) (.int .i64 3) (.slice s1 un s2) (.int .i64 t.base) (.int .i64 0) (.slice (some ⟨X, 0, none⟩) 1 1)
          have B5 : Below B wr ((((((w3.alloc (.cells #[.int .i64 v.kind, .slice k1 l1 k2, .int .i64 v.ty.base, .int .i64 v.idx, .slice k3 l2 k4] 27)).setCell ⟨B, 0, none⟩ (.int .i64 3)).setCell ⟨B, 1, none⟩ (.slice s1 un s2)).setCell ⟨B, 2, none⟩ (.int .i64 t.base)).setCell ⟨B, 3, none⟩ (.int .i64 0)).setCell ⟨B, 4, none⟩ (.slice (some ⟨X, 0, none⟩) 1 1)) := (bset (bset (bset (bset (bset mB (by omega) _) (by omega) _) (by omega) _) (by omega) _) (by omega) _)
          have hone : HoldsR ((((((w3.alloc (.cells #[.int .i64 v.kind, .slice k1 l1 k2, .int .i64 v.ty.base, .int .i64 v.idx, .slice k3 l2 k4] 27)).setCell ⟨B, 0, none⟩ (.int .i64 3)).setCell ⟨B, 1, none⟩ (.slice s1 un s2)).setCell ⟨B, 2, none⟩ (.int .i64 t.base)).setCell ⟨B, 3, none⟩ (.int .i64 0)).setCell ⟨B, 4, none⟩ (.slice (some ⟨X, 0, none⟩) 1 1)) (fun b => b ≠ B ∧ ¬ False) [v] (.slice (some ⟨X, 0, none⟩) 1 1) := holdsR_one bX5 ⟨by omega, id⟩ hv5 hw5
          clear mC mX hv1 hv2 hu1 hv5 hw5 bX5 e0 e1 e2 e3 e4 f0 f1 f2 f3 f4 j0 j1 j2 j3 j4 mB a0 a1 n0 n1
          generalize ((((((w3.alloc (.cells #[.int .i64 v.kind, .slice k1 l1 k2, .int .i64 v.ty.base, .int .i64 v.idx, .slice k3 l2 k4] 27)).setCell ⟨B, 0, none⟩ (.int .i64 3)).setCell ⟨B, 1, none⟩ (.slice s1 un s2)).setCell ⟨B, 2, none⟩ (.int .i64 t.base)).setCell ⟨B, 3, none⟩ (.int .i64 0)).setCell ⟨B, 4, none⟩ (.slice (some ⟨X, 0, none⟩) 1 1)) = W5 at *
          have bx5 : Bxd W5.drew B (fun _ => False) (lamR t v) := ⟨s1, un, s2, some ⟨X, 0, none⟩, 1, 1, bC5, hu5.drew, hone.drew⟩
          go_wp2
          exact ⟨⟨m, (m : Int) - 1, by omega, rfl, by go_num, by rw [HAP.out]; exact bx5, B5.drew⟩, by simp [intOf] <;> omega⟩
        | zero =>
          obtain rfl : z = -1 := by omega
          clear hz
          rename World => w7
          have hbw : Below wr.heap.size wr w7 := HB.out ▸ hbl2
          rw [List.drop_zero] at hbx2
          have kN := hbN.below hbw hbN.lt
          have kr1 := (hbr.t).bel hbw
          have kr2 := (HoldsR.t hrr).bel hbw
          have kt := (htr.t).bel hbw
          have kl := (HoldsR.t hh4).bel hbw
          obtain ⟨k1, l1, k2, k3, l2, k4, kC, hc2, hc3⟩ := hbx.ex
          have kC' := kC.below hbw kC.lt
          have hc2' := (hc2.t).bel hbw
          have hc3' := (HoldsR.t hc3).bel hbw
          obtain ⟨p1, p2, p3, q1', q2', q3', kB, hd2, hd3⟩ := hbx2.ex
          have hd2' := hd2.t
          have hd3' := HoldsR.t hd3
          have hBL : Below N w w7 := hbl.trans (hbw.mono hNw)
          have hz7 : N ≤ w7.heap.size := by have := hbw.size; omega
          have hlt1 := lamsR_total r ts
          have hlt2 := appsR_total r us
          have hlt3 := totalR_le us 300 HUA.out
          have hlt4 := HTR.out
          have hlt5 := HTZ.out
          have hlt6 := HUL.out
          obtain ⟨L, hL⟩ : ∃ L, lamsR r ts = L := ⟨_, rfl⟩
          obtain ⟨A, hA⟩ : ∃ A, appsR r us = A := ⟨_, rfl⟩
          have hLt : L.total ≤ 1000000 := by rw [← hL]; omega
          have hAt : A.total ≤ 1000000 := by rw [← hA]; omega
          have kBd := fun (cur : World) (sb sr st : Value) (h1 : Holds cur okT r.ty.args sb) (h2 : HoldsR cur okT r.kids sr) (h3 : Holds cur okT ts st) => Bind_calls r ts okT okT sb sr st cur h1 h2 h3 (Rw.fit_of_total _ (by omega)) (by omega)
          have kCl := fun (cur : World) (sb sr st : Value) (h1 : Holds cur okT r.ty.args sb) (h2 : HoldsR cur okT r.kids sr) (h3 : HoldsR cur okT us st) => Call_calls r us okT okT sb sr st cur h1 h2 h3 (Rw.fit_of_total _ (by omega)) (fun u hu => Rw.fit_of_total _ (by have := HUA.out u hu; omega)) (by omega)
          rw [hA] at kC' hc2' hc3'
          rw [hL] at kB hd2' hd3'
          simp only [hL] at kBd
          simp only [hA] at kCl
          have hrt : r.total ≤ 1000000 := by omega
          have htz : sizeL ts ≤ 1000000 := by omega
          have HBd : Hid _ := kBd
          have HCl : Hid _ := kCl
          clear kBd kCl hbN hbr hrr htr hh4 hbx kC hc2 hc3 hbx2 hd2 hd3 hbl hbl2 hL hA hlt1 hlt2 hlt3 hlt4 hlt5 hlt6 hCB hz4
          go_upto_region 16 with fail
          rename_i K Q' hKs
          refine (wpIn_wide (n := 9)).1 ?_
          show Code.wpIn Fence.wide 9 Try.prog (Code.region 16 _ true) _ (actM16 z1 la ts.length z3 us.length lc k i N C B (rwv r.kind (.slice x1 x2 x3) r.ty.base r.idx (.slice y1 y2 y3)) (.slice v1 us.length v3) (undef) (undef) (undef) (undef) (.int .i64 (us.length : Int)) (.int .i64 (-1)) (.slice z1 z0 z3) (.slice z1 z0 z3) (.int .i64 (z0 : Int)) (.int .i64 q1) (.slice z1 ts.length z3) (.slice v1 v0 v3) (.slice v1 v0 v3) (.int .i64 (v0 : Int)) (.int .i64 q2) (.slice v1 us.length v3) (.agg #[.int .i64 r.kind, .slice x1 x2 x3, .int .i64 r.ty.base, .int .i64 r.idx, .slice y1 y2 y3]) (.slice (some ⟨N + 1, 0, none⟩) 1 1) (.bool true) (.bool false) (.bool false) (.slice v1 us.length v3) (.bool true) (.bool false) (.bool false) (.bool false) (.agg #[.int .i64 0, .slice none 0 0, .slice none 0 0]) (.slice z1 ts.length z3) (.bool true) (.bool false) (.bool false) (undef) (.agg #[.int .i64 r.kind, .slice x1 x2 x3, .int .i64 r.ty.base, .int .i64 r.idx, .slice y1 y2 y3]) (.int .i64 (us.length : Int)) (.slice v1 us.length v3) (.int .i64 (us.length : Int)) (.bool false) (u47) (u48) (u49) (u50) (u51) (u52) (u53) (u54) (u55) (u56) (u57) (u58) (u59) (u60) (u61) (u62) (u63) (.agg #[.int .i64 r.kind, .slice x1 x2 x3, .int .i64 r.ty.base, .int .i64 r.idx, .slice y1 y2 y3]) (.slice z1 ts.length z3) (.int .i64 (ts.length : Int)) (.int .i64 ((ts.length : Int) - 1)) (.int .i64 (-1)) (.bool false) (u70) (u71) (u72) (u73) (u74) (u75) (u76) (u77) (u78) (fun | 10 => .bool false | 79 => undef | 80 => undef | 81 => undef | 82 => undef | 83 => undef | 84 => undef | 85 => undef | 86 => undef | 87 => undef | 88 => undef | 89 => undef | 90 => undef | 91 => undef | 92 => undef | 93 => undef | 94 => undef | 95 => undef | 96 => undef | 97 => undef | 98 => undef | 99 => undef | 100 => undef | 101 => undef | 102 => undef | 103 => undef | 104 => undef | 105 => undef | 106 => undef | 107 => undef | 108 => undef | 109 => undef | 110 => undef | 111 => undef | 112 => undef | 113 => undef | 114 => undef | 115 => undef | 116 => undef | 117 => undef | 118 => undef | 119 => undef | 120 => undef | 121 => undef | 122 => undef | _ => undef)) w7
          refine region_spine [(0, 0), (1, 0), (2, 0), (3, 0), (4, 0), (5, 0), (6, 0), (7, 0), (8, 0), (9, 0), (10, 0), (11, 0), (12, 0), (13, 0), (14, 0), (15, 0), (16, 0), (17, 0), (18, 0), (19, 0), (20, 0), (21, 0), (22, 0), (23, 0), (24, 0), (25, 0), (26, 0), (27, 0), (28, 0), (29, 0), (30, 0), (31, 0), (32, 0), (33, 0), (34, 0), (35, 0), (36, 0), (37, 0), (38, 0), (39, 0), (40, 0), (41, 0), (42, 0), (43, 0), (44, 0)] [] (fun s => Nat.beq s 10 || (Nat.ble 79 s && Nat.ble s 122)) (fun _ => VM16 r L A ts k i x1 y1 z1 la p1 q1' k1 k3 x2 x3 y2 y3 ts.length z3 us.length lc p2 p3 q2' q3' l1 k2 l2 k4) (fun _ w => Below (w7).heap.size w7 w) (by kernel_rfl) (by kernel_rfl) (by kernel_rfl) (by kernel_rfl) (fun _ _ _ _ _ h hb => h.mono hb) (fun _ _ _ h hb => h.trans (hb.mono h.size)) ((Below.refl _ _).drew) ⟨?_, ?_, ?_, ?_, ?_, ?_, ?_, ?_, ?_, ?_, ?_, ?_, ?_, ?_, ?_, ?_, ?_, ?_, ?_, ?_, ?_, ?_, ?_, ?_, ?_, ?_, ?_, ?_, ?_, ?_, ?_, ?_, ?_, ?_, ?_, ?_, ?_, ?_, ?_, ?_, ?_, ?_, ?_, ?_, ?_, trivial⟩ trivial ?_
          · intro o ho p hp _ z w hB hk K' hK
            cases ho
            have hcall := known_calls w
            have hK3 := fun (w2 : World) (hb2 : Below w.heap.size w w2) => hK (.bool true) w2 (fun s hs => by cases hs; exact rfl) hb2
            simp only [over_actM16] at hK3 ⊢
            clear hK hk
            unfold actM16 at hK3 ⊢
            refine want_plain rfl ?_
            go_simp
            refine ⟨trivial, (callsIn_wide.2 hcall).mono ?_⟩
            rintro e w2 ⟨rfl, hb2⟩
            exact hK3 w2 hb2
          · intro o ho p hp _ z w hB hk K' hK
            cases ho
            have e79 : z 79 = .bool true := hk 79 (by decide +kernel) rfl
            have hK3 := hK (.bool true) w (fun s hs => by cases hs; exact rfl) (Below.refl _ _)
            simp only [over_actM16] at hK3 ⊢
            clear hK hk
            unfold actM16 at hK3 ⊢
            simp only [e79] at hK3 ⊢
            refine want_plain rfl ?_
            go_simp
            exact hK3
          · intro o ho p hp _ z w hB hk K' hK
            cases ho
            have e80 : z 80 = .bool true := hk 80 (by decide +kernel) rfl
            have n0 := (cat hB kN.lt).trans (kN.cell 0)
            have n1 := (cat hB kN.lt).trans (kN.cell 1)
            have n2 := (cat hB kN.lt).trans (kN.cell 2)
            have n3 := (cat hB kN.lt).trans (kN.cell 3)
            have n4 := (cat hB kN.lt).trans (kN.cell 4)
            have hK3 := hK (.agg #[.int .i64 r.kind, .slice x1 x2 x3, .int .i64 r.ty.base, .int .i64 r.idx, .slice y1 y2 y3]) w (fun s hs => by cases hs; exact rfl) (Below.refl _ _)
            simp only [over_actM16] at hK3 ⊢
            clear hK hk
            unfold actM16 at hK3 ⊢
            simp only [e80] at hK3 ⊢
            refine want_yes rfl (by rfl) ?_
            go_simp
            exact hK3
          · intro o ho p hp _ z w hB hk K' hK
            cases ho
            have e81 : z 81 = .agg #[.int .i64 r.kind, .slice x1 x2 x3, .int .i64 r.ty.base, .int .i64 r.idx, .slice y1 y2 y3] := hk 81 (by decide +kernel) rfl
            have e80 : z 80 = .bool true := hk 80 (by decide +kernel) rfl
            have hcall := ToR_calls r okT _ _ w (kr1.bel hB) (kr2.bel hB) hrt
            have hK3 := fun (w2 : World) (g1 : Option Addr) (gn g2 : Nat) (h1 : Option Addr) (hn h2 : Nat) (j1 : Holds w2 okT r.ty.args (.slice g1 gn g2)) (j2 : HoldsR w2 okT r.kids (.slice h1 hn h2)) (hb2 : Below w.heap.size w w2) => hK (rwv r.kind (.slice g1 gn g2) r.ty.base r.idx (.slice h1 hn h2)) w2 (fun s hs => by cases hs; exact ⟨g1, gn, g2, h1, hn, h2, rfl, j1, j2⟩) hb2
            simp only [over_actM16] at hK3 ⊢
            clear hK hk
            unfold actM16 at hK3 ⊢
            simp only [e81, e80] at hK3 ⊢
            refine want_yes rfl (by rfl) ?_
            go_simp
            refine ⟨trivial, (callsIn_wide.2 hcall).mono ?_⟩
            rintro e w2 ⟨vb, vr, rfl, j1, j2, hb2⟩
            obtain ⟨g1, g2, rfl, _⟩ := j1.shape
            obtain ⟨h1, h2, rfl, _⟩ := j2.shape
            exact hK3 w2 g1 _ g2 h1 _ h2 (Holds.t j1) (HoldsR.t j2) hb2
          · intro o ho p hp _ z w hB hk K' hK
            cases ho
            have e80 : z 80 = .bool true := hk 80 (by decide +kernel) rfl
            have hK3 := hK (.slice z1 ts.length z3) w (fun s hs => by cases hs; exact rfl) (Below.refl _ _)
            simp only [over_actM16] at hK3 ⊢
            clear hK hk
            unfold actM16 at hK3 ⊢
            simp only [e80] at hK3 ⊢
            refine want_yes rfl (by rfl) ?_
            go_simp
            exact hK3
          · intro o ho p hp _ z w hB hk K' hK
            cases ho
            have e83 : z 83 = .slice z1 ts.length z3 := hk 83 (by decide +kernel) rfl
            have e80 : z 80 = .bool true := hk 80 (by decide +kernel) rfl
            have hcall := TypesT_calls ts okT _ w (kt.bel hB) htz
            have hK3 := fun (w2 : World) (g1 : Option Addr) (gn g2 : Nat) (j1 : Holds w2 okT ts (.slice g1 gn g2)) (hb2 : Below w.heap.size w w2) => hK (.slice g1 gn g2) w2 (fun s hs => by cases hs; exact ⟨g1, gn, g2, rfl, j1⟩) hb2
            simp only [over_actM16] at hK3 ⊢
            clear hK hk
            unfold actM16 at hK3 ⊢
            simp only [e83, e80] at hK3 ⊢
            refine want_yes rfl (by rfl) ?_
            go_simp
            refine ⟨trivial, (callsIn_wide.2 hcall).mono ?_⟩
            rintro e w2 ⟨vb, rfl, j1, hb2⟩
            obtain ⟨g1, g2, rfl, _⟩ := j1.shape
            exact hK3 w2 g1 _ g2 j1.t hb2
          · intro o ho p hp _ z w hB hk K' hK
            cases ho
            have e80 : z 80 = .bool true := hk 80 (by decide +kernel) rfl
            obtain ⟨g1a, gna, g2a, h1a, hna, h2a, e82, j1a, j2a⟩ := hk 82 (by decide +kernel) rfl
            obtain ⟨g1b, gnb, g2b, e84, j1b⟩ := hk 84 (by decide +kernel) rfl
            have hcall := HBd.out w (.slice g1a gna g2a) (.slice h1a hna h2a) (.slice g1b gnb g2b) j1a j2a j1b
            have hK3 := fun (w2 : World) (g1 : Option Addr) (gn g2 : Nat) (h1 : Option Addr) (hn h2 : Nat) (j1 : Holds w2 okT L.ty.args (.slice g1 gn g2)) (j2 : HoldsR w2 okT L.kids (.slice h1 hn h2)) (hb2 : Below w.heap.size w w2) => hK (rwv L.kind (.slice g1 gn g2) L.ty.base L.idx (.slice h1 hn h2)) w2 (fun s hs => by cases hs; exact ⟨g1, gn, g2, h1, hn, h2, rfl, j1, j2⟩) hb2
            simp only [over_actM16] at hK3 ⊢
            clear hK hk
            unfold actM16 at hK3 ⊢
            simp only [e80, e82, e84] at hK3 ⊢
            refine want_yes rfl (by rfl) ?_
            go_simp
            refine ⟨trivial, (callsIn_wide.2 hcall).mono ?_⟩
            rintro e w2 ⟨vb, vr, rfl, j1, j2, hb2⟩
            obtain ⟨g1, g2, rfl, _⟩ := j1.shape
            obtain ⟨h1, h2, rfl, _⟩ := j2.shape
            exact hK3 w2 g1 _ g2 h1 _ h2 (Holds.t j1) (HoldsR.t j2) (Only.bel hb2 rfl)
          · intro o ho p hp _ z w hB hk K' hK
            cases ho
            have e80 : z 80 = .bool true := hk 80 (by decide +kernel) rfl
            obtain ⟨g1a, gna, g2a, h1a, hna, h2a, e85, j1a, j2a⟩ := hk 85 (by decide +kernel) rfl
            have hcall := OfR_calls L okT _ _ w j1a j2a hLt
            have hK3 := fun (w2 : World) (g1 : Option Addr) (gn g2 : Nat) (h1 : Option Addr) (hn h2 : Nat) (j1 : Holds w2 okT L.ty.args (.slice g1 gn g2)) (j2 : HoldsR w2 okT L.kids (.slice h1 hn h2)) (hb2 : Below w.heap.size w w2) => hK (rwv L.kind (.slice g1 gn g2) L.ty.base L.idx (.slice h1 hn h2)) w2 (fun s hs => by cases hs; exact ⟨g1, gn, g2, h1, hn, h2, rfl, j1, j2⟩) hb2
            simp only [over_actM16] at hK3 ⊢
            clear hK hk
            unfold actM16 at hK3 ⊢
            simp only [e80, e85] at hK3 ⊢
            refine want_yes rfl (by rfl) ?_
            go_simp
            refine ⟨trivial, (callsIn_wide.2 hcall).mono ?_⟩
            rintro e w2 ⟨vb, vr, rfl, j1, j2, hb2⟩
            obtain ⟨g1, g2, rfl, _⟩ := j1.shape
            obtain ⟨h1, h2, rfl, _⟩ := j2.shape
            exact hK3 w2 g1 _ g2 h1 _ h2 (Holds.t j1) (HoldsR.t j2) hb2
          · intro o ho p hp _ z w hB hk K' hK
            cases ho
            have e80 : z 80 = .bool true := hk 80 (by decide +kernel) rfl
            have n0 := (cat hB kB.lt).trans (kB.cell 0)
            have n1 := (cat hB kB.lt).trans (kB.cell 1)
            have n2 := (cat hB kB.lt).trans (kB.cell 2)
            have n3 := (cat hB kB.lt).trans (kB.cell 3)
            have n4 := (cat hB kB.lt).trans (kB.cell 4)
            have hK3 := hK (.agg #[.int .i64 L.kind, .slice p1 p2 p3, .int .i64 L.ty.base, .int .i64 L.idx, .slice q1' q2' q3']) w (fun s hs => by cases hs; exact rfl) (Below.refl _ _)
            simp only [over_actM16] at hK3 ⊢
            clear hK hk
            unfold actM16 at hK3 ⊢
            simp only [e80] at hK3 ⊢
            refine want_yes rfl (by rfl) ?_
            go_simp
            exact hK3
          · intro o ho p hp _ z w hB hk K' hK
            cases ho
            have e87 : z 87 = .agg #[.int .i64 L.kind, .slice p1 p2 p3, .int .i64 L.ty.base, .int .i64 L.idx, .slice q1' q2' q3'] := hk 87 (by decide +kernel) rfl
            have e80 : z 80 = .bool true := hk 80 (by decide +kernel) rfl
            obtain ⟨g1a, gna, g2a, h1a, hna, h2a, e86, j1a, j2a⟩ := hk 86 (by decide +kernel) rfl
            have hs88 := SameR_calls L L okT okT _ _ _ _ w j1a j2a (hd2'.bel hB) (hd3'.bel hB) hLt
            rw [L.same_self] at hs88
            have hcall := hs88
            have hK3 := fun (w2 : World) (hb2 : Below w.heap.size w w2) => hK (.bool true) w2 (fun s hs => by cases hs; exact rfl) hb2
            simp only [over_actM16] at hK3 ⊢
            clear hK hk
            unfold actM16 at hK3 ⊢
            simp only [e87, e80, e86] at hK3 ⊢
            refine want_yes rfl (by rfl) ?_
            go_simp
            refine ⟨trivial, (callsIn_wide.2 hcall).mono ?_⟩
            rintro e w2 ⟨rfl, hb2⟩
            exact hK3 w2 hb2
          · intro o ho p hp _ z w hB hk K' hK
            cases ho
            have e80 : z 80 = .bool true := hk 80 (by decide +kernel) rfl
            have e88 : z 88 = .bool true := hk 88 (by decide +kernel) rfl
            have hK3 := hK (.bool true) w (fun s hs => by cases hs; exact rfl) (Below.refl _ _)
            simp only [over_actM16] at hK3 ⊢
            clear hK hk
            unfold actM16 at hK3 ⊢
            simp only [e80, e88] at hK3 ⊢
            refine want_plain rfl ?_
            go_simp
            exact hK3
          · intro o ho p hp _ z w hB hk K' hK
            cases ho
            have e89 : z 89 = .bool true := hk 89 (by decide +kernel) rfl
            have hK3 := hK (.bool true) w (fun s hs => by cases hs; exact rfl) (Below.refl _ _)
            simp only [over_actM16] at hK3 ⊢
            clear hK hk
            unfold actM16 at hK3 ⊢
            simp only [e89] at hK3 ⊢
            refine want_plain rfl ?_
            go_simp
            exact hK3
          · intro o ho p hp _ z w hB hk K' hK
            cases ho
            have e90 : z 90 = .bool true := hk 90 (by decide +kernel) rfl
            have n0 := (cat hB kN.lt).trans (kN.cell 0)
            have n1 := (cat hB kN.lt).trans (kN.cell 1)
            have n2 := (cat hB kN.lt).trans (kN.cell 2)
            have n3 := (cat hB kN.lt).trans (kN.cell 3)
            have n4 := (cat hB kN.lt).trans (kN.cell 4)
            have hK3 := hK (.agg #[.int .i64 r.kind, .slice x1 x2 x3, .int .i64 r.ty.base, .int .i64 r.idx, .slice y1 y2 y3]) w (fun s hs => by cases hs; exact rfl) (Below.refl _ _)
            simp only [over_actM16] at hK3 ⊢
            clear hK hk
            unfold actM16 at hK3 ⊢
            simp only [e90] at hK3 ⊢
            refine want_yes rfl (by rfl) ?_
            go_simp
            exact hK3
          · intro o ho p hp _ z w hB hk K' hK
            cases ho
            have e91 : z 91 = .agg #[.int .i64 r.kind, .slice x1 x2 x3, .int .i64 r.ty.base, .int .i64 r.idx, .slice y1 y2 y3] := hk 91 (by decide +kernel) rfl
            have e90 : z 90 = .bool true := hk 90 (by decide +kernel) rfl
            have hcall := ToR_calls r okT _ _ w (kr1.bel hB) (kr2.bel hB) hrt
            have hK3 := fun (w2 : World) (g1 : Option Addr) (gn g2 : Nat) (h1 : Option Addr) (hn h2 : Nat) (j1 : Holds w2 okT r.ty.args (.slice g1 gn g2)) (j2 : HoldsR w2 okT r.kids (.slice h1 hn h2)) (hb2 : Below w.heap.size w w2) => hK (rwv r.kind (.slice g1 gn g2) r.ty.base r.idx (.slice h1 hn h2)) w2 (fun s hs => by cases hs; exact ⟨g1, gn, g2, h1, hn, h2, rfl, j1, j2⟩) hb2
            simp only [over_actM16] at hK3 ⊢
            clear hK hk
            unfold actM16 at hK3 ⊢
            simp only [e91, e90] at hK3 ⊢
            refine want_yes rfl (by rfl) ?_
            go_simp
            refine ⟨trivial, (callsIn_wide.2 hcall).mono ?_⟩
            rintro e w2 ⟨vb, vr, rfl, j1, j2, hb2⟩
            obtain ⟨g1, g2, rfl, _⟩ := j1.shape
            obtain ⟨h1, h2, rfl, _⟩ := j2.shape
            exact hK3 w2 g1 _ g2 h1 _ h2 (Holds.t j1) (HoldsR.t j2) hb2
          · intro o ho p hp _ z w hB hk K' hK
            cases ho
            have e90 : z 90 = .bool true := hk 90 (by decide +kernel) rfl
            have hK3 := hK (.slice la us.length lc) w (fun s hs => by cases hs; exact rfl) (Below.refl _ _)
            simp only [over_actM16] at hK3 ⊢
            clear hK hk
            unfold actM16 at hK3 ⊢
            simp only [e90] at hK3 ⊢
            refine want_yes rfl (by rfl) ?_
            go_simp
            exact hK3
          · intro o ho p hp _ z w hB hk K' hK
            cases ho
            have e93 : z 93 = .slice la us.length lc := hk 93 (by decide +kernel) rfl
            have e90 : z 90 = .bool true := hk 90 (by decide +kernel) rfl
            obtain ⟨g1a, gna, g2a, h1a, hna, h2a, e92, j1a, j2a⟩ := hk 92 (by decide +kernel) rfl
            have hcall := HCl.out w (.slice g1a gna g2a) (.slice h1a hna h2a) (.slice la us.length lc) j1a j2a (kl.bel hB)
            have hK3 := fun (w2 : World) (g1 : Option Addr) (gn g2 : Nat) (h1 : Option Addr) (hn h2 : Nat) (j1 : Holds w2 okT A.ty.args (.slice g1 gn g2)) (j2 : HoldsR w2 okT A.kids (.slice h1 hn h2)) (hb2 : Below w.heap.size w w2) => hK (rwv A.kind (.slice g1 gn g2) A.ty.base A.idx (.slice h1 hn h2)) w2 (fun s hs => by cases hs; exact ⟨g1, gn, g2, h1, hn, h2, rfl, j1, j2⟩) hb2
            simp only [over_actM16] at hK3 ⊢
            clear hK hk
            unfold actM16 at hK3 ⊢
            simp only [e93, e90, e92] at hK3 ⊢
            refine want_yes rfl (by rfl) ?_
            go_simp
            refine ⟨trivial, (callsIn_wide.2 hcall).mono ?_⟩
            rintro e w2 ⟨vb, vr, rfl, j1, j2, hb2⟩
            obtain ⟨g1, g2, rfl, _⟩ := j1.shape
            obtain ⟨h1, h2, rfl, _⟩ := j2.shape
            exact hK3 w2 g1 _ g2 h1 _ h2 (Holds.t j1) (HoldsR.t j2) (Only.bel hb2 rfl)
          · intro o ho p hp _ z w hB hk K' hK
            cases ho
            have e90 : z 90 = .bool true := hk 90 (by decide +kernel) rfl
            obtain ⟨g1a, gna, g2a, h1a, hna, h2a, e94, j1a, j2a⟩ := hk 94 (by decide +kernel) rfl
            have hcall := OfR_calls A okT _ _ w j1a j2a hAt
            have hK3 := fun (w2 : World) (g1 : Option Addr) (gn g2 : Nat) (h1 : Option Addr) (hn h2 : Nat) (j1 : Holds w2 okT A.ty.args (.slice g1 gn g2)) (j2 : HoldsR w2 okT A.kids (.slice h1 hn h2)) (hb2 : Below w.heap.size w w2) => hK (rwv A.kind (.slice g1 gn g2) A.ty.base A.idx (.slice h1 hn h2)) w2 (fun s hs => by cases hs; exact ⟨g1, gn, g2, h1, hn, h2, rfl, j1, j2⟩) hb2
            simp only [over_actM16] at hK3 ⊢
            clear hK hk
            unfold actM16 at hK3 ⊢
            simp only [e90, e94] at hK3 ⊢
            refine want_yes rfl (by rfl) ?_
            go_simp
            refine ⟨trivial, (callsIn_wide.2 hcall).mono ?_⟩
            rintro e w2 ⟨vb, vr, rfl, j1, j2, hb2⟩
            obtain ⟨g1, g2, rfl, _⟩ := j1.shape
            obtain ⟨h1, h2, rfl, _⟩ := j2.shape
            exact hK3 w2 g1 _ g2 h1 _ h2 (Holds.t j1) (HoldsR.t j2) hb2
          · intro o ho p hp _ z w hB hk K' hK
            cases ho
            have e90 : z 90 = .bool true := hk 90 (by decide +kernel) rfl
            have n0 := (cat hB kC'.lt).trans (kC'.cell 0)
            have n1 := (cat hB kC'.lt).trans (kC'.cell 1)
            have n2 := (cat hB kC'.lt).trans (kC'.cell 2)
            have n3 := (cat hB kC'.lt).trans (kC'.cell 3)
            have n4 := (cat hB kC'.lt).trans (kC'.cell 4)
            have hK3 := hK (.agg #[.int .i64 A.kind, .slice k1 l1 k2, .int .i64 A.ty.base, .int .i64 A.idx, .slice k3 l2 k4]) w (fun s hs => by cases hs; exact rfl) (Below.refl _ _)
            simp only [over_actM16] at hK3 ⊢
            clear hK hk
            unfold actM16 at hK3 ⊢
            simp only [e90] at hK3 ⊢
            refine want_yes rfl (by rfl) ?_
            go_simp
            exact hK3
          · intro o ho p hp _ z w hB hk K' hK
            cases ho
            have e96 : z 96 = .agg #[.int .i64 A.kind, .slice k1 l1 k2, .int .i64 A.ty.base, .int .i64 A.idx, .slice k3 l2 k4] := hk 96 (by decide +kernel) rfl
            have e90 : z 90 = .bool true := hk 90 (by decide +kernel) rfl
            obtain ⟨g1a, gna, g2a, h1a, hna, h2a, e95, j1a, j2a⟩ := hk 95 (by decide +kernel) rfl
            have hs97 := SameR_calls A A okT okT _ _ _ _ w j1a j2a (hc2'.bel hB) (hc3'.bel hB) hAt
            rw [A.same_self] at hs97
            have hcall := hs97
            have hK3 := fun (w2 : World) (hb2 : Below w.heap.size w w2) => hK (.bool true) w2 (fun s hs => by cases hs; exact rfl) hb2
            simp only [over_actM16] at hK3 ⊢
            clear hK hk
            unfold actM16 at hK3 ⊢
            simp only [e96, e90, e95] at hK3 ⊢
            refine want_yes rfl (by rfl) ?_
            go_simp
            refine ⟨trivial, (callsIn_wide.2 hcall).mono ?_⟩
            rintro e w2 ⟨rfl, hb2⟩
            exact hK3 w2 hb2
          · intro o ho p hp _ z w hB hk K' hK
            cases ho
            have e90 : z 90 = .bool true := hk 90 (by decide +kernel) rfl
            have e97 : z 97 = .bool true := hk 97 (by decide +kernel) rfl
            have hK3 := hK (.bool true) w (fun s hs => by cases hs; exact rfl) (Below.refl _ _)
            simp only [over_actM16] at hK3 ⊢
            clear hK hk
            unfold actM16 at hK3 ⊢
            simp only [e90, e97] at hK3 ⊢
            refine want_plain rfl ?_
            go_simp
            exact hK3
          · intro o ho p hp _ z w hB hk K' hK
            cases ho
            have e98 : z 98 = .bool true := hk 98 (by decide +kernel) rfl
            have hK3 := hK (.bool true) w (fun s hs => by cases hs; exact rfl) (Below.refl _ _)
            simp only [over_actM16] at hK3 ⊢
            clear hK hk
            unfold actM16 at hK3 ⊢
            simp only [e98] at hK3 ⊢
            refine want_plain rfl ?_
            go_simp
            exact hK3
          · intro o ho p hp _ z w hB hk K' hK
            cases ho
            have e99 : z 99 = .bool true := hk 99 (by decide +kernel) rfl
            have hK3 := hK (.int .i64 k) w (fun s hs => by cases hs; exact rfl) (Below.refl _ _)
            simp only [over_actM16] at hK3 ⊢
            clear hK hk
            unfold actM16 at hK3 ⊢
            simp only [e99] at hK3 ⊢
            refine want_yes rfl (by rfl) ?_
            go_simp
            exact hK3
          · intro o ho p hp _ z w hB hk K' hK
            cases ho
            have e99 : z 99 = .bool true := hk 99 (by decide +kernel) rfl
            have hK3 := hK (.int .i64 i) w (fun s hs => by cases hs; exact rfl) (Below.refl _ _)
            simp only [over_actM16] at hK3 ⊢
            clear hK hk
            unfold actM16 at hK3 ⊢
            simp only [e99] at hK3 ⊢
            refine want_yes rfl (by rfl) ?_
            go_simp
            exact hK3
          · intro o ho p hp _ z w hB hk K' hK
            cases ho
            have e100 : z 100 = .int .i64 k := hk 100 (by decide +kernel) rfl
            have e101 : z 101 = .int .i64 i := hk 101 (by decide +kernel) rfl
            have e99 : z 99 = .bool true := hk 99 (by decide +kernel) rfl
            have hcall := HeadX_calls k i w
            have hK3 := fun (w2 : World) (hb2 : Below w.heap.size w w2) => hK (rwv k (.slice none 0 0) 0 i (.slice none 0 0)) w2 (fun s hs => by cases hs; exact rfl) hb2
            simp only [over_actM16] at hK3 ⊢
            clear hK hk
            unfold actM16 at hK3 ⊢
            simp only [e100, e101, e99] at hK3 ⊢
            refine want_yes rfl (by rfl) ?_
            go_simp
            refine ⟨trivial, (callsIn_wide.2 hcall).mono ?_⟩
            rintro e w2 ⟨rfl, hb2⟩
            exact hK3 w2 hb2
          · intro o ho p hp _ z w hB hk K' hK
            cases ho
            have e102 : z 102 = rwv k (.slice none 0 0) 0 i (.slice none 0 0) := hk 102 (by decide +kernel) rfl
            have e99 : z 99 = .bool true := hk 99 (by decide +kernel) rfl
            have hK3 := hK (.int .i64 k) w (fun s hs => by cases hs; exact rfl) (Below.refl _ _)
            simp only [over_actM16] at hK3 ⊢
            clear hK hk
            unfold actM16 at hK3 ⊢
            simp only [e102, e99] at hK3 ⊢
            refine want_yes rfl (by rfl) ?_
            go_simp
            exact hK3
          · intro o ho p hp _ z w hB hk K' hK
            cases ho
            have e99 : z 99 = .bool true := hk 99 (by decide +kernel) rfl
            have hK3 := hK (.int .i64 k) w (fun s hs => by cases hs; exact rfl) (Below.refl _ _)
            simp only [over_actM16] at hK3 ⊢
            clear hK hk
            unfold actM16 at hK3 ⊢
            simp only [e99] at hK3 ⊢
            refine want_yes rfl (by rfl) ?_
            go_simp
            exact hK3
          · intro o ho p hp _ z w hB hk K' hK
            cases ho
            have e103 : z 103 = .int .i64 k := hk 103 (by decide +kernel) rfl
            have e104 : z 104 = .int .i64 k := hk 104 (by decide +kernel) rfl
            have e99 : z 99 = .bool true := hk 99 (by decide +kernel) rfl
            have hK3 := hK (.bool true) w (fun s hs => by cases hs; exact rfl) (Below.refl _ _)
            simp only [over_actM16] at hK3 ⊢
            clear hK hk
            unfold actM16 at hK3 ⊢
            simp only [e103, e104, e99] at hK3 ⊢
            refine want_yes rfl (by rfl) ?_
            go_simp
            exact hK3
          · intro o ho p hp _ z w hB hk K' hK
            cases ho
            have e99 : z 99 = .bool true := hk 99 (by decide +kernel) rfl
            have e105 : z 105 = .bool true := hk 105 (by decide +kernel) rfl
            have hK3 := hK (.bool true) w (fun s hs => by cases hs; exact rfl) (Below.refl _ _)
            simp only [over_actM16] at hK3 ⊢
            clear hK hk
            unfold actM16 at hK3 ⊢
            simp only [e99, e105] at hK3 ⊢
            refine want_plain rfl ?_
            go_simp
            exact hK3
          · intro o ho p hp _ z w hB hk K' hK
            cases ho
            have e106 : z 106 = .bool true := hk 106 (by decide +kernel) rfl
            have hK3 := hK (.bool true) w (fun s hs => by cases hs; exact rfl) (Below.refl _ _)
            simp only [over_actM16] at hK3 ⊢
            clear hK hk
            unfold actM16 at hK3 ⊢
            simp only [e106] at hK3 ⊢
            refine want_plain rfl ?_
            go_simp
            exact hK3
          · intro o ho p hp _ z w hB hk K' hK
            cases ho
            have e107 : z 107 = .bool true := hk 107 (by decide +kernel) rfl
            have hK3 := hK (.int .i64 k) w (fun s hs => by cases hs; exact rfl) (Below.refl _ _)
            simp only [over_actM16] at hK3 ⊢
            clear hK hk
            unfold actM16 at hK3 ⊢
            simp only [e107] at hK3 ⊢
            refine want_yes rfl (by rfl) ?_
            go_simp
            exact hK3
          · intro o ho p hp _ z w hB hk K' hK
            cases ho
            have e107 : z 107 = .bool true := hk 107 (by decide +kernel) rfl
            have hK3 := hK (.int .i64 i) w (fun s hs => by cases hs; exact rfl) (Below.refl _ _)
            simp only [over_actM16] at hK3 ⊢
            clear hK hk
            unfold actM16 at hK3 ⊢
            simp only [e107] at hK3 ⊢
            refine want_yes rfl (by rfl) ?_
            go_simp
            exact hK3
          · intro o ho p hp _ z w hB hk K' hK
            cases ho
            have e108 : z 108 = .int .i64 k := hk 108 (by decide +kernel) rfl
            have e109 : z 109 = .int .i64 i := hk 109 (by decide +kernel) rfl
            have e107 : z 107 = .bool true := hk 107 (by decide +kernel) rfl
            have hcall := HeadX_calls k i w
            have hK3 := fun (w2 : World) (hb2 : Below w.heap.size w w2) => hK (rwv k (.slice none 0 0) 0 i (.slice none 0 0)) w2 (fun s hs => by cases hs; exact rfl) hb2
            simp only [over_actM16] at hK3 ⊢
            clear hK hk
            unfold actM16 at hK3 ⊢
            simp only [e108, e109, e107] at hK3 ⊢
            refine want_yes rfl (by rfl) ?_
            go_simp
            refine ⟨trivial, (callsIn_wide.2 hcall).mono ?_⟩
            rintro e w2 ⟨rfl, hb2⟩
            exact hK3 w2 hb2
          · intro o ho p hp _ z w hB hk K' hK
            cases ho
            have e110 : z 110 = rwv k (.slice none 0 0) 0 i (.slice none 0 0) := hk 110 (by decide +kernel) rfl
            have e107 : z 107 = .bool true := hk 107 (by decide +kernel) rfl
            have hK3 := hK (.int .i64 i) w (fun s hs => by cases hs; exact rfl) (Below.refl _ _)
            simp only [over_actM16] at hK3 ⊢
            clear hK hk
            unfold actM16 at hK3 ⊢
            simp only [e110, e107] at hK3 ⊢
            refine want_yes rfl (by rfl) ?_
            go_simp
            exact hK3
          · intro o ho p hp _ z w hB hk K' hK
            cases ho
            have e107 : z 107 = .bool true := hk 107 (by decide +kernel) rfl
            have hK3 := hK (.int .i64 i) w (fun s hs => by cases hs; exact rfl) (Below.refl _ _)
            simp only [over_actM16] at hK3 ⊢
            clear hK hk
            unfold actM16 at hK3 ⊢
            simp only [e107] at hK3 ⊢
            refine want_yes rfl (by rfl) ?_
            go_simp
            exact hK3
          · intro o ho p hp _ z w hB hk K' hK
            cases ho
            have e111 : z 111 = .int .i64 i := hk 111 (by decide +kernel) rfl
            have e112 : z 112 = .int .i64 i := hk 112 (by decide +kernel) rfl
            have e107 : z 107 = .bool true := hk 107 (by decide +kernel) rfl
            have hK3 := hK (.bool true) w (fun s hs => by cases hs; exact rfl) (Below.refl _ _)
            simp only [over_actM16] at hK3 ⊢
            clear hK hk
            unfold actM16 at hK3 ⊢
            simp only [e111, e112, e107] at hK3 ⊢
            refine want_yes rfl (by rfl) ?_
            go_simp
            exact hK3
          · intro o ho p hp _ z w hB hk K' hK
            cases ho
            have e107 : z 107 = .bool true := hk 107 (by decide +kernel) rfl
            have e113 : z 113 = .bool true := hk 113 (by decide +kernel) rfl
            have hK3 := hK (.bool true) w (fun s hs => by cases hs; exact rfl) (Below.refl _ _)
            simp only [over_actM16] at hK3 ⊢
            clear hK hk
            unfold actM16 at hK3 ⊢
            simp only [e107, e113] at hK3 ⊢
            refine want_plain rfl ?_
            go_simp
            exact hK3
          · intro o ho p hp _ z w hB hk K' hK
            cases ho
            have e114 : z 114 = .bool true := hk 114 (by decide +kernel) rfl
            have hK3 := hK (.bool true) w (fun s hs => by cases hs; exact rfl) (Below.refl _ _)
            simp only [over_actM16] at hK3 ⊢
            clear hK hk
            unfold actM16 at hK3 ⊢
            simp only [e114] at hK3 ⊢
            refine want_plain rfl ?_
            go_simp
            exact hK3
          · intro o ho p hp _ z w hB hk K' hK
            cases ho
            have e115 : z 115 = .bool true := hk 115 (by decide +kernel) rfl
            have hK3 := hK (.int .i64 k) w (fun s hs => by cases hs; exact rfl) (Below.refl _ _)
            simp only [over_actM16] at hK3 ⊢
            clear hK hk
            unfold actM16 at hK3 ⊢
            simp only [e115] at hK3 ⊢
            refine want_yes rfl (by rfl) ?_
            go_simp
            exact hK3
          · intro o ho p hp _ z w hB hk K' hK
            cases ho
            have e115 : z 115 = .bool true := hk 115 (by decide +kernel) rfl
            have hK3 := hK (.int .i64 i) w (fun s hs => by cases hs; exact rfl) (Below.refl _ _)
            simp only [over_actM16] at hK3 ⊢
            clear hK hk
            unfold actM16 at hK3 ⊢
            simp only [e115] at hK3 ⊢
            refine want_yes rfl (by rfl) ?_
            go_simp
            exact hK3
          · intro o ho p hp _ z w hB hk K' hK
            cases ho
            have e116 : z 116 = .int .i64 k := hk 116 (by decide +kernel) rfl
            have e117 : z 117 = .int .i64 i := hk 117 (by decide +kernel) rfl
            have e115 : z 115 = .bool true := hk 115 (by decide +kernel) rfl
            have hcall := HeadX_calls k i w
            have hK3 := fun (w2 : World) (hb2 : Below w.heap.size w w2) => hK (rwv k (.slice none 0 0) 0 i (.slice none 0 0)) w2 (fun s hs => by cases hs; exact rfl) hb2
            simp only [over_actM16] at hK3 ⊢
            clear hK hk
            unfold actM16 at hK3 ⊢
            simp only [e116, e117, e115] at hK3 ⊢
            refine want_yes rfl (by rfl) ?_
            go_simp
            refine ⟨trivial, (callsIn_wide.2 hcall).mono ?_⟩
            rintro e w2 ⟨rfl, hb2⟩
            exact hK3 w2 hb2
          · intro o ho p hp _ z w hB hk K' hK
            cases ho
            have e118 : z 118 = rwv k (.slice none 0 0) 0 i (.slice none 0 0) := hk 118 (by decide +kernel) rfl
            have e115 : z 115 = .bool true := hk 115 (by decide +kernel) rfl
            have hK3 := hK (.slice none 0 0) w (fun s hs => by cases hs; exact rfl) (Below.refl _ _)
            simp only [over_actM16] at hK3 ⊢
            clear hK hk
            unfold actM16 at hK3 ⊢
            simp only [e118, e115] at hK3 ⊢
            refine want_yes rfl (by rfl) ?_
            go_simp
            exact hK3
          · intro o ho p hp _ z w hB hk K' hK
            cases ho
            have e119 : z 119 = .slice none 0 0 := hk 119 (by decide +kernel) rfl
            have e115 : z 115 = .bool true := hk 115 (by decide +kernel) rfl
            have hK3 := hK (.int .i64 0) w (fun s hs => by cases hs; exact rfl) (Below.refl _ _)
            simp only [over_actM16] at hK3 ⊢
            clear hK hk
            unfold actM16 at hK3 ⊢
            simp only [e119, e115] at hK3 ⊢
            refine want_yes rfl (by rfl) ?_
            go_simp
            exact hK3
          · intro o ho p hp _ z w hB hk K' hK
            cases ho
            have e120 : z 120 = .int .i64 0 := hk 120 (by decide +kernel) rfl
            have e115 : z 115 = .bool true := hk 115 (by decide +kernel) rfl
            have hK3 := hK (.bool true) w (fun s hs => by cases hs; exact rfl) (Below.refl _ _)
            simp only [over_actM16] at hK3 ⊢
            clear hK hk
            unfold actM16 at hK3 ⊢
            simp only [e120, e115] at hK3 ⊢
            refine want_yes rfl (by rfl) ?_
            go_simp
            exact hK3
          · intro o ho p hp _ z w hB hk K' hK
            cases ho
            have e115 : z 115 = .bool true := hk 115 (by decide +kernel) rfl
            have e121 : z 121 = .bool true := hk 121 (by decide +kernel) rfl
            have hK3 := hK (.bool true) w (fun s hs => by cases hs; exact rfl) (Below.refl _ _)
            simp only [over_actM16] at hK3 ⊢
            clear hK hk
            unfold actM16 at hK3 ⊢
            simp only [e115, e121] at hK3 ⊢
            refine want_plain rfl ?_
            go_simp
            exact hK3
          · intro o ho p hp _ z w hB hk K' hK
            cases ho
            have e122 : z 122 = .bool true := hk 122 (by decide +kernel) rfl
            have hK3 := hK (.bool true) w (fun s hs => by cases hs; exact rfl) (Below.refl _ _)
            simp only [over_actM16] at hK3 ⊢
            clear hK hk
            unfold actM16 at hK3 ⊢
            simp only [e122] at hK3 ⊢
            refine want_plain rfl ?_
            go_simp
            exact hK3
          · intro z w' hB hv
            have e10 : z 10 = .bool true := hv 10 (by decide +kernel)
            rw [over_actM16]
            refine hKs _ _ ?_
            unfold actM16
            simp only [e10]
            have B9 : Below N w w' := hBL.trans (hB.mono hz7)
            go_wp2
            go_ret
            exact ⟨rfl, B9⟩

end Go.Proofs.Ytckagmagjogmnaa
