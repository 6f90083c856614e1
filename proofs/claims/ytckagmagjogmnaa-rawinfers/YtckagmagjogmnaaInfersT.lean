/-
  RawInfers comes out true: the walk.
-/
import Derived.Test.YtckagmagjogmnaaKnownR
import Derived.Test.YtckagmagjogmnaaFewR
import Derived.Test.YtckagmagjogmnaaToR
import Derived.Test.YtckagmagjogmnaaWld
import Derived.Test.YtckagmagjogmnaaRefAll
namespace Go.Proofs.Ytckagmagjogmnaa
open Go Go.RowKit Go.Sort

theorem smallB_parts {cs ms ctx : List Ty} (h : smallB cs ms ctx = true) : sizeL cs ≤ 1200 ∧ sizeL ms ≤ 1200 ∧ sizeL ctx ≤ 1200 ∧ ctx.length ≤ 20 ∧ ∀ u ∈ ctx, u.size ≤ 60 := by
  unfold smallB at h
  simp only [Bool.and_eq_true, Bool.not_eq_true', Bool.or_eq_false_iff, decide_eq_false_iff_not, List.all_append, List.all_eq_true] at h
  obtain ⟨⟨⟨h1, h2⟩, h3⟩, ⟨h4, h5⟩, h6⟩ := h
  have hs : ∀ u : Ty, fewB 60 60 u = true → u.size ≤ 60 := fun u h => by unfold fewB at h; simp at h; exact h.1
  have k1 := sizeL_le cs 60 fun u hu => hs u (h4 u hu)
  have k2 := sizeL_le ms 60 fun u hu => hs u (h5 u hu)
  have k3 := sizeL_le ctx 60 fun u hu => hs u (h6 u hu)
  exact ⟨by omega, by omega, by omega, by omega, fun u hu => hs u (h6 u hu)⟩
def actBI3 (N : Nat) (z1 : Option Addr) (z2 z3 : Nat) (y0 y2 y4 y6 y9 y10 y11 y12 y13 y14 y15 y16 y17 y18 y19 y20 y21 y32 y33 y34 y35 y36 y37 y38 y39 y40 y41 y42 y43 y44 y45 y46 y47 y48 y49 y50 : Value) (u : Nat → Value) : Act :=
  { tmps := #[y0, .slice z1 z2 z3, y2, .pointer (some ⟨N, 0, none⟩), y4, .pointer (some ⟨N + 1, 0, none⟩), y6, u 7, u 8, y9, y10, y11, y12, y13, y14, y15, y16, y17, y18, y19, y20, y21, u 22, u 23, u 24, u 25, u 26, u 27, u 28, u 29, u 30, u 31, y32, y33, y34, y35, y36, y37, y38, y39, y40, y41, y42, y43, y44, y45, y46, y47, y48, y49, y50], defers := [] }
set_option maxRecDepth 100000 in
theorem over_actBI3 (N : Nat) (z1 : Option Addr) (z2 z3 : Nat) (y0 y2 y4 y6 y9 y10 y11 y12 y13 y14 y15 y16 y17 y18 y19 y20 y21 y32 y33 y34 y35 y36 y37 y38 y39 y40 y41 y42 y43 y44 y45 y46 y47 y48 y49 y50 : Value) (u0 u : Nat → Value) : over (fun s => (Nat.ble 7 s && Nat.ble s 8) || (Nat.ble 22 s && Nat.ble s 31)) u (actBI3 N z1 z2 z3 y0 y2 y4 y6 y9 y10 y11 y12 y13 y14 y15 y16 y17 y18 y19 y20 y21 y32 y33 y34 y35 y36 y37 y38 y39 y40 y41 y42 y43 y44 y45 y46 y47 y48 y49 y50 u0) = actBI3 N z1 z2 z3 y0 y2 y4 y6 y9 y10 y11 y12 y13 y14 y15 y16 y17 y18 y19 y20 y21 y32 y33 y34 y35 y36 y37 y38 y39 y40 y41 y42 y43 y44 y45 y46 y47 y48 y49 y50 u := rfl
def VBI3 (cs ms ctx : List Ty) (bs : Int) (a : Rw) (P : Int × Ty) (c1 m1 z1 x1 y1 : Option Addr) (c2 cn m2 mn z2 z3 x2 x3 y2 y3 : Nat) (s : Nat) (w : World) (ok : Nat → Prop) (v : Value) : Prop := match s with
  | 23 => v = wov bs (.slice c1 cn c2) (.slice m1 mn m2)
  | 24 => ∃ p1 p2 p3 q1 q2 q3, v = wov bs (.slice p1 p2 p3) (.slice q1 q2 q3) ∧ Holds w ok cs (.slice p1 p2 p3) ∧ Holds w ok ms (.slice q1 q2 q3)
  | 25 => v = .slice z1 z2 z3
  | 26 => ∃ p1 p2 p3, v = .slice p1 p2 p3 ∧ Holds w ok ctx (.slice p1 p2 p3)
  | 27 => v = rwv a.kind (.slice x1 x2 x3) a.ty.base a.idx (.slice y1 y2 y3)
  | 28 => ∃ a1 n1 c1 a2 n2 c2, v = rwv a.kind (.slice a1 n1 c1) a.ty.base a.idx (.slice a2 n2 c2) ∧ Holds w ok a.ty.args (.slice a1 n1 c1) ∧ HoldsR w ok a.kids (.slice a2 n2 c2)
  | 29 => ∃ p1 p2 p3, v = .tuple #[tv (.slice p1 p2 p3) P.2.base, .int .i64 P.1] ∧ Holds w ok P.2.args (.slice p1 p2 p3)
  | 22 => ∃ p1 p2 p3, v = .tuple #[tv (.slice p1 p2 p3) P.2.base, .int .i64 P.1] ∧ Holds w ok P.2.args (.slice p1 p2 p3)
  | 30 => ∃ p1 p2 p3, v = tv (.slice p1 p2 p3) P.2.base ∧ Holds w ok P.2.args (.slice p1 p2 p3)
  | 31 => v = .int .i64 P.1
  | 8 => v = .int .i64 P.1
  | _ => True
theorem VBI3.keep (cs ms ctx : List Ty) (bs : Int) (a : Rw) (P : Int × Ty) (c1 m1 z1 x1 y1 : Option Addr) (c2 cn m2 mn z2 z3 x2 x3 y2 y3 : Nat) (s : Nat) (w w' : World) (ok ok' : Nat → Prop) (v : Value) (h : VBI3 cs ms ctx bs a P c1 m1 z1 x1 y1 c2 cn m2 mn z2 z3 x2 x3 y2 y3 s w ok v) (hsz : w.heap.size ≤ w'.heap.size) (hkp : ∀ m, m < w.heap.size → ok m → w'.heap[m]? = w.heap[m]? ∧ ok' m) : VBI3 cs ms ctx bs a P c1 m1 z1 x1 y1 c2 cn m2 mn z2 z3 x2 x3 y2 y3 s w' ok' v := by
  have _ := hsz
  revert h
  unfold VBI3
  split <;> intro h
  · exact h
  · obtain ⟨p1, p2, p3, q1, q2, q3, e0, h1, h2⟩ := h; exact ⟨p1, p2, p3, q1, q2, q3, e0, h1.keep hkp, h2.keep hkp⟩
  · exact h
  · obtain ⟨p1, p2, p3, e0, h1⟩ := h; exact ⟨p1, p2, p3, e0, h1.keep hkp⟩
  · exact h
  · obtain ⟨a1, n1, c1, a2, n2, c2, e0, h1, h2⟩ := h; exact ⟨a1, n1, c1, a2, n2, c2, e0, h1.keep hkp, h2.keep hkp⟩
  · obtain ⟨p1, p2, p3, e0, h1⟩ := h; exact ⟨p1, p2, p3, e0, h1.keep hkp⟩
  · obtain ⟨p1, p2, p3, e0, h1⟩ := h; exact ⟨p1, p2, p3, e0, h1.keep hkp⟩
  · obtain ⟨p1, p2, p3, e0, h1⟩ := h; exact ⟨p1, p2, p3, e0, h1.keep hkp⟩
  · exact h
  · exact h
  · trivial

def actI5 (P : Int × Ty) (M Z : Nat) (y0 y1 y2 y3 y4 y5 y11 y12 y13 y14 y15 y16 y17 y18 y19 y20 y21 y22 y23 y24 y25 y26 y27 y28 y29 y30 y31 y32 y33 y34 y35 y36 y37 y38 : Value) (u : Nat → Value) : Act :=
  { tmps := #[y0, y1, y2, y3, y4, y5, u 6, .pointer (some ⟨M, 0, none⟩), .int .i64 P.1, .pointer (some ⟨Z, 0, none⟩), .int .i64 P.1, y11, y12, y13, y14, y15, y16, y17, y18, y19, y20, y21, y22, y23, y24, y25, y26, y27, y28, y29, y30, y31, y32, y33, y34, y35, y36, y37, y38, u 39, u 40, u 41, u 42, u 43, u 44, u 45, u 46, u 47, u 48, u 49, u 50], defers := [] }
set_option maxRecDepth 100000 in
theorem over_actI5 (P : Int × Ty) (M Z : Nat) (y0 y1 y2 y3 y4 y5 y11 y12 y13 y14 y15 y16 y17 y18 y19 y20 y21 y22 y23 y24 y25 y26 y27 y28 y29 y30 y31 y32 y33 y34 y35 y36 y37 y38 : Value) (u0 u : Nat → Value) : over (fun s => Nat.beq s 6 || (Nat.ble 39 s && Nat.ble s 50)) u (actI5 P M Z y0 y1 y2 y3 y4 y5 y11 y12 y13 y14 y15 y16 y17 y18 y19 y20 y21 y22 y23 y24 y25 y26 y27 y28 y29 y30 y31 y32 y33 y34 y35 y36 y37 y38 u0) = actI5 P M Z y0 y1 y2 y3 y4 y5 y11 y12 y13 y14 y15 y16 y17 y18 y19 y20 y21 y22 y23 y24 y25 y26 y27 y28 y29 y30 y31 y32 y33 y34 y35 y36 y37 y38 u := rfl
def VI5 (P : Int × Ty) (qa ra : Option Addr) (qn qc rn rc : Nat) (s : Nat) (w : World) (v : Value) : Prop := match s with
  | 39 => v = .bool true
  | 40 => v = .bool true
  | 41 => v = .int .i64 P.1
  | 42 => v = .int .i64 P.1
  | 43 => v = .bool true
  | 44 => v = .bool true
  | 45 => v = .bool true
  | 46 => v = tv (.slice qa qn qc) P.2.base
  | 47 => ∃ g1 gn g2, v = tv (.slice g1 gn g2) P.2.base ∧ Holds w okT P.2.args (.slice g1 gn g2)
  | 48 => v = tv (.slice ra rn rc) P.2.base
  | 49 => v = .bool true
  | 50 => v = .bool true
  | 6 => v = .bool true
  | _ => True
theorem VI5.mono {P : Int × Ty} {qa ra : Option Addr} {qn qc rn rc : Nat} {s : Nat} {w w' : World} {v : Value} (h : VI5 P qa ra qn qc rn rc s w v) (hb : Below w.heap.size w w') : VI5 P qa ra qn qc rn rc s w' v := by
  revert h
  unfold VI5
  split <;> intro h
  · exact h
  · exact h
  · exact h
  · exact h
  · exact h
  · exact h
  · exact h
  · exact h
  · obtain ⟨g1, gn, g2, e, h1⟩ := h; exact ⟨g1, gn, g2, e, h1.bel hb⟩
  · exact h
  · exact h
  · exact h
  · exact h
  · trivial

set_option maxRecDepth 100000 in
set_option maxHeartbeats 8000000 in
theorem Infers_calls (cs ms ctx : List Ty) (bs : Int) (a : Rw) (cv mv xv sa ra : Value) (w : World) (hc : Holds w okT cs cv) (hm : Holds w okT ms mv) (hx : Holds w okT ctx xv) (ha : Holds w okT a.ty.args sa) (ha' : HoldsR w okT a.kids ra) (hrg : a.rng) :
    Calls Try.prog 5 #[wov bs cv mv, xv, rwv a.kind sa a.ty.base a.idx ra] w fun e w' => e = .returned (.bool true) ∧ Below w.heap.size w w' := by
  obtain ⟨c1, c2, rfl, _⟩ := hc.shape
  obtain ⟨m1, m2, rfl, _⟩ := hm.shape
  obtain ⟨z1, z3, rfl, _⟩ := hx.shape
  obtain ⟨x1, x3, rfl, _⟩ := ha.shape
  obtain ⟨y1, y3, rfl, _⟩ := ha'.shape
  obtain ⟨cn, hcn⟩ : ∃ n, cs.length = n := ⟨_, rfl⟩
  obtain ⟨mn, hmn⟩ : ∃ n, ms.length = n := ⟨_, rfl⟩
  obtain ⟨z2, hz2⟩ : ∃ n, ctx.length = n := ⟨_, rfl⟩
  obtain ⟨x2, hx2⟩ : ∃ n, a.ty.args.length = n := ⟨_, rfl⟩
  obtain ⟨y2, hy2⟩ : ∃ n, a.kids.length = n := ⟨_, rfl⟩
  rw [hcn] at hc ⊢
  rw [hmn] at hm ⊢
  rw [hz2] at hx ⊢
  rw [hx2] at ha ⊢
  rw [hy2] at ha' ⊢
  obtain ⟨N, hN⟩ : ∃ N, w.heap.size = N := ⟨_, rfl⟩
  rw [hN]
  obtain ⟨W0, hW0⟩ : ∃ W0, (w.alloc (.cells #[.int .i64 bs, .slice c1 cn c2, .slice m1 mn m2] 47)).alloc (.cells #[.int .i64 a.kind, .slice x1 x2 x3, .int .i64 a.ty.base, .int .i64 a.idx, .slice y1 y2 y3] 27) = W0 := ⟨_, rfl⟩
  have b0 : Blk W0 N 47 #[.int .i64 bs, .slice c1 cn c2, .slice m1 mn m2] := by rw [← hW0]; exact (Blk.new' w N 47 _ hN).alloc _
  have b1 : Blk W0 (N + 1) 27 #[.int .i64 a.kind, .slice x1 x2 x3, .int .i64 a.ty.base, .int .i64 a.idx, .slice y1 y2 y3] := by rw [← hW0]; exact Blk.new' _ (N + 1) 27 _ (by simp [hN])
  have hz0 : W0.heap.size = N + 2 := by rw [← hW0]; simp [hN]
  have bl0 : Below N w W0 := by rw [← hW0]; exact ((Below.refl N w).alloc (by omega) _).alloc (by simp; omega) _
  have hc0 := hc.bel (hN ▸ bl0)
  have hm0 := hm.bel (hN ▸ bl0)
  have hx0 := hx.bel (hN ▸ bl0)
  have ha0 := ha.bel (hN ▸ bl0)
  have ha0' := ha'.bel (hN ▸ bl0)
  obtain ⟨W1, hW1⟩ : ∃ W1, W0.alloc (.cells #[.int .i64 a.kind, .slice x1 x2 x3, .int .i64 a.ty.base, .int .i64 a.idx, .slice y1 y2 y3] 27) = W1 := ⟨_, rfl⟩
  have bb1 : Below W0.heap.size W0 W1 := by rw [← hW1]; exact (Below.refl _ _).alloc (Nat.le_refl _) _
  have hF1 : HoldsR W1 okT [a] (.slice (some ⟨N + 2, 0, none⟩) 1 1) := holdsR_one (by rw [← hW1]; exact Blk.new' W0 (N + 2) 27 _ hz0) trivial (ha0.bel bb1) (ha0'.bel bb1)
  obtain ⟨r1, hr1⟩ : ∃ r, fewRB 300 70 a = r := ⟨_, rfl⟩
  have hfl := FewL_calls [a] okT _ W1 hF1 (by simp)
  rw [show [a].all (fewRB 300 70) = r1 by rw [← hr1]; simp] at hfl
  obtain ⟨r2, hr2⟩ : ∃ r, smallB cs ms ctx = r := ⟨_, rfl⟩
  have HR1 : Hid _ := hr1
  have HR2 : Hid _ := hr2
  have hsm := fun (cur : World) (h : Cur W0 cur) => Small_calls cs ms ctx bs (.slice c1 cn c2) (.slice m1 mn m2) (.slice z1 z2 z3) cur (h.holds hc0) (h.holds hm0) (h.holds hx0)
  simp only [hr2] at hsm
  have HW : Hid _ := hW0
  have HW1 : Hid _ := hW1
  have c0 := b1.cell 0
  have c1' := b1.cell 1
  have c2' := b1.cell 2
  have c3 := b1.cell 3
  have c4 := b1.cell 4
  have hzN : N ≤ W0.heap.size := by omega
  clear hW0 hW1 hr1 hr2 hF1 ha ha' hc hm hx hcn hmn hz2 hx2 hy2
  go_enter Try.func5, Try.ntmps5
  go_upto_region 1 with fail
  rw [HW.out]
  clear HW
  go_wp2_with fail
  rw [HW1.out]
  clear HW1
  refine hfl.mono ?_
  rintro e w1 ⟨rfl, hb1⟩
  have hc1 : Cur W0 w1 := (show Cur W0 W1 from bb1).then hb1
  clear hfl hb1 bb1 c0 c1' c2' c3 c4
  cases r1 with
  | false =>
    go_wp2_with fail
    refine (known_calls _).mono ?_
    rintro e w4 ⟨rfl, hb4⟩
    go_wp2
    go_ret
    exact ⟨rfl, bl0.trans (Below.mono (hc1.then hb4) hzN)⟩
  | true =>
  have htota := total_of_few HR1.out
  clear HR1
  have g0 := hc1.cell (b0.cell 0)
  have g1 := hc1.cell (b0.cell 1)
  have g2 := hc1.cell (b0.cell 2)
  have hs2 := hsm w1 hc1
  clear hsm
  go_wp2_with fail
  refine hs2.mono ?_
  rintro e w2 ⟨rfl, hb2⟩
  have hc2 : Cur W0 w2 := hc1.then hb2
  clear hs2 hb2 g0 g1 g2
  cases r2 with
  | false =>
    go_wp2_with fail
    refine (known_calls _).mono ?_
    rintro e w4 ⟨rfl, hb4⟩
    go_wp2
    go_ret
    exact ⟨rfl, bl0.trans (Below.mono (hc2.then hb4) hzN)⟩
  | true =>
  obtain ⟨hzc, hzm, hzx, hlx, hxs⟩ := smallB_parts HR2.out
  clear HR2
  have k0 := b0.below hc2 b0.lt
  have k1 := b1.below hc2 b1.lt
  have hc2' := hc2.holds hc0
  have hm2 := hc2.holds hm0
  have hx2 := hc2.holds hx0
  have ha2 := hc2.holds ha0
  have ha2' := ha0'.bel hc2
  have bl2 : Below N w w2 := bl0.trans (Below.mono hc2 hzN)
  have hz2 : N ≤ w2.heap.size := by have := bl2.size; omega
  have hsa := a.size_le_total
  obtain ⟨P, hP⟩ : ∃ P, a.infer bs cs ms ctx = P := ⟨_, rfl⟩
  have hPz : P.2.size ≤ 1000 := by rw [← hP]; unfold Rw.infer; split; exact a.inf_size _ _ _ _; decide
  have kI := fun (cv mv xv sb sr : Value) (cur : World) (h1 : Holds cur okT cs cv) (h2 : Holds cur okT ms mv) (h3 : Holds cur okT ctx xv) (h4 : Holds cur okT a.ty.args sb) (h5 : HoldsR cur okT a.kids sr) => Infer_calls cs ms ctx a bs cv mv xv sb sr cur h1 h2 h3 h4 h5 (by omega) (by omega) (fun u hu => by have := hxs u hu; omega) hrg (by omega) (by omega)
  simp only [hP] at kI
  have kR := fun (cv mv xv sb sr : Value) (cur : World) (h1 : Holds cur okT cs cv) (h2 : Holds cur okT ms mv) (h3 : Holds cur okT ctx xv) (h4 : Holds cur okT a.ty.args sb) (h5 : HoldsR cur okT a.kids sr) => refInferAll_calls a hrg (by omega) cs ms ctx bs cv mv xv sb sr cur h1 h2 h3 h4 h5 (by omega) (by omega) (fun u hu => by have := hxs u hu; omega) (by omega)
  simp only [hP] at kR
  clear b0 b1 bl0 hc0 hm0 hx0 ha0 ha0' hc1 hc2 hz0 hzN hP
  go_upto_region 3 with fail
  go_cut [7, 8] (fun s7 s8 wx => ∃ (M : Nat) (qa : Option Addr) (qn qc : Nat), s7 = .pointer (some ⟨M, 0, none⟩) ∧ s8 = .int .i64 P.1 ∧ Blk wx M 32 #[.slice qa qn qc, .int .i64 P.2.base] ∧ Holds wx okT P.2.args (.slice qa qn qc) ∧ w2.heap.size ≤ M ∧ Below w2.heap.size w2 wx)
  case first =>
    rename_i K Q' hKs
    refine (wpIn_wide (n := 9)).1 ?_
    show Code.wpIn Fence.wide 9 Try.prog (Code.region 3 _ true) _ (actBI3 N z1 z2 z3 (wov bs (.slice c1 cn c2) (.slice m1 mn m2)) (rwv a.kind (.slice x1 x2 x3) a.ty.base a.idx (.slice y1 y2 y3)) (undef) (.bool false) (undef) (undef) (rwv a.kind (.slice x1 x2 x3) a.ty.base a.idx (.slice y1 y2 y3)) (.slice (some ⟨N + 2, 0, none⟩) 1 1) (.bool true) (.bool false) (.bool false) (wov bs (.slice c1 cn c2) (.slice m1 mn m2)) (.slice z1 z2 z3) (.bool true) (.bool false) (.bool false) (undef) (undef) (undef) (undef) (undef) (undef) (undef) (undef) (undef) (undef) (undef) (undef) (undef) (undef) (undef) (undef) (undef) (undef) (undef) (undef) (fun | 7 => undef | 8 => undef | 22 => undef | 23 => undef | 24 => undef | 25 => undef | 26 => undef | 27 => undef | 28 => undef | 29 => undef | 30 => undef | 31 => undef | _ => undef)) w2
    refine region_boxes [(0, 0), (1, 0), (2, 0), (3, 0), (4, 0), (5, 0), (6, 0), (7, 0), (8, 0), (9, 1), (12, 1)] [⟨7, 30, 32, #[.slice none 0 0, .int .i64 0], 10, 0, 11⟩] (fun s => (Nat.ble 7 s && Nat.ble s 8) || (Nat.ble 22 s && Nat.ble s 31)) (VBI3 cs ms ctx bs a P c1 m1 z1 x1 y1 c2 cn m2 mn z2 z3 x2 x3 y2 y3) (by kernel_rfl) (by kernel_rfl) (by kernel_rfl) (by kernel_rfl) (by kernel_rfl) (by kernel_rfl) (by kernel_rfl) (VBI3.keep cs ms ctx bs a P c1 m1 z1 x1 y1 c2 cn m2 mn z2 z3 x2 x3 y2 y3) ⟨?_, ?_, ?_, ?_, ?_, ?_, ?_, ?_, ?_, ?_, ?_, trivial⟩ ⟨⟨?_, ?_⟩, trivial⟩ ?_
    · intro o ho uu ok w hB hk K' hK
      cases ho
      have g0 := (cat hB k0.lt).trans (k0.cell 0)
      have g1 := (cat hB k0.lt).trans (k0.cell 1)
      have g2 := (cat hB k0.lt).trans (k0.cell 2)
      have hK3 := hK (wov bs (.slice c1 cn c2) (.slice m1 mn m2)) w (fun s hs => by cases hs; exact rfl) (Below.refl _ _)
      simp only [over_actBI3] at hK3 ⊢
      clear hK hk
      unfold actBI3 at hK3 ⊢
      refine want_plain rfl ?_
      go_simp
      exact hK3
    · intro o ho uu ok w hB hk K' hK
      cases ho
      have e23 : uu 23 = wov bs (.slice c1 cn c2) (.slice m1 mn m2) := hk 23 (by decide +kernel) rfl
      have hcall := World_calls cs ms bs _ _ w (hc2'.bel hB) (hm2.bel hB) (by omega) (by omega)
      have hK3 := fun (w2 : World) (p1 : Option Addr) (p2 p3 : Nat) (q1 : Option Addr) (q2 q3 : Nat) (h1 : Holds w2 (fun m => w.heap.size ≤ m) cs (.slice p1 p2 p3)) (h2 : Holds w2 (fun m => w.heap.size ≤ m) ms (.slice q1 q2 q3)) (hb2 : Below w.heap.size w w2) => hK (wov bs (.slice p1 p2 p3) (.slice q1 q2 q3)) w2 (fun s hs => by cases hs; exact ⟨p1, p2, p3, q1, q2, q3, rfl, h1.mono (fun _ _ h => .inl h), h2.mono (fun _ _ h => .inl h)⟩) hb2
      simp only [over_actBI3] at hK3 ⊢
      clear hK hk
      unfold actBI3 at hK3 ⊢
      simp only [e23] at hK3 ⊢
      refine want_plain rfl ?_
      go_simp
      refine ⟨trivial, (callsIn_wide.2 hcall).mono ?_⟩
      rintro e w2 ⟨p1, p2, p3, q1, q2, q3, rfl, h1, h2, hbw⟩
      exact hK3 w2 p1 p2 p3 q1 q2 q3 h1 h2 hbw
    · intro o ho uu ok w hB hk K' hK
      cases ho
      have hK3 := hK (.slice z1 z2 z3) w (fun s hs => by cases hs; exact rfl) (Below.refl _ _)
      simp only [over_actBI3] at hK3 ⊢
      clear hK hk
      unfold actBI3 at hK3 ⊢
      refine want_plain rfl ?_
      go_simp
      exact hK3
    · intro o ho uu ok w hB hk K' hK
      cases ho
      have e25 : uu 25 = .slice z1 z2 z3 := hk 25 (by decide +kernel) rfl
      have hcall := TypesT_calls ctx okT _ w (hx2.bel hB) (by omega)
      have hK3 := fun (w2 : World) (p1 : Option Addr) (p2 p3 : Nat) (h1 : Holds w2 (fun m => w.heap.size ≤ m) ctx (.slice p1 p2 p3)) (hb2 : Below w.heap.size w w2) => hK (.slice p1 p2 p3) w2 (fun s hs => by cases hs; exact ⟨p1, p2, p3, rfl, h1.mono (fun _ _ h => .inl h)⟩) hb2
      simp only [over_actBI3] at hK3 ⊢
      clear hK hk
      unfold actBI3 at hK3 ⊢
      simp only [e25] at hK3 ⊢
      refine want_plain rfl ?_
      go_simp
      refine ⟨trivial, (callsIn_wide.2 hcall).mono ?_⟩
      rintro e w2 ⟨vv, rfl, h1, hbw⟩
      obtain ⟨p1, p3, rfl, _⟩ := h1.shape
      exact hK3 w2 p1 _ p3 h1 hbw
    · intro o ho uu ok w hB hk K' hK
      cases ho
      have g0 := (cat hB k1.lt).trans (k1.cell 0)
      have g1 := (cat hB k1.lt).trans (k1.cell 1)
      have g2 := (cat hB k1.lt).trans (k1.cell 2)
      have g3 := (cat hB k1.lt).trans (k1.cell 3)
      have g4 := (cat hB k1.lt).trans (k1.cell 4)
      have hK3 := hK (rwv a.kind (.slice x1 x2 x3) a.ty.base a.idx (.slice y1 y2 y3)) w (fun s hs => by cases hs; exact rfl) (Below.refl _ _)
      simp only [over_actBI3] at hK3 ⊢
      clear hK hk
      unfold actBI3 at hK3 ⊢
      refine want_plain rfl ?_
      go_simp
      exact hK3
    · intro o ho uu ok w hB hk K' hK
      cases ho
      have e27 : uu 27 = rwv a.kind (.slice x1 x2 x3) a.ty.base a.idx (.slice y1 y2 y3) := hk 27 (by decide +kernel) rfl
      have hcall := ToR_calls a okT _ _ w (ha2.bel hB) (ha2'.bel hB) (by omega)
      have hK3 := fun (w2 : World) (a1 : Option Addr) (n1 c1 : Nat) (a2 : Option Addr) (n2 c2 : Nat) (h1 : Holds w2 (fun m => w.heap.size ≤ m) a.ty.args (.slice a1 n1 c1)) (h2 : HoldsR w2 (fun m => w.heap.size ≤ m) a.kids (.slice a2 n2 c2)) (hb2 : Below w.heap.size w w2) => hK (rwv a.kind (.slice a1 n1 c1) a.ty.base a.idx (.slice a2 n2 c2)) w2 (fun s hs => by cases hs; exact ⟨a1, n1, c1, a2, n2, c2, rfl, h1.mono (fun _ _ h => .inl h), h2.mono (fun _ _ h => .inl h)⟩) hb2
      simp only [over_actBI3] at hK3 ⊢
      clear hK hk
      unfold actBI3 at hK3 ⊢
      simp only [e27] at hK3 ⊢
      refine want_plain rfl ?_
      go_simp
      refine ⟨trivial, (callsIn_wide.2 hcall).mono ?_⟩
      rintro e w2 ⟨vb, vr, rfl, h1, h2, hbw⟩
      obtain ⟨a1, c1, rfl, _⟩ := h1.shape
      obtain ⟨a2, c2, rfl, _⟩ := h2.shape
      exact hK3 w2 a1 _ c1 a2 _ c2 h1 h2 hbw
    · intro o ho uu ok w hB hk K' hK
      cases ho
      obtain ⟨p1_24, p2_24, p3_24, q1_24, q2_24, q3_24, e24, h24_1, h24_2⟩ := hk 24 (by decide +kernel) rfl
      obtain ⟨p1_26, p2_26, p3_26, e26, h26_1⟩ := hk 26 (by decide +kernel) rfl
      obtain ⟨a1_28, n1_28, c1_28, a2_28, n2_28, c2_28, e28, h28_1, h28_2⟩ := hk 28 (by decide +kernel) rfl
      have hcall := kI (.slice p1_24 p2_24 p3_24) (.slice q1_24 q2_24 q3_24) (.slice p1_26 p2_26 p3_26) (.slice a1_28 n1_28 c1_28) (.slice a2_28 n2_28 c2_28) w h24_1.t h24_2.t h26_1.t h28_1.t h28_2.t
      have hK3 := fun (w2 : World) (p1 : Option Addr) (p2 p3 : Nat) (h1 : Holds w2 (fun m => w.heap.size ≤ m) P.2.args (.slice p1 p2 p3)) (hb2 : Below w.heap.size w w2) => hK (.tuple #[tv (.slice p1 p2 p3) P.2.base, .int .i64 P.1]) w2 (fun s hs => by cases hs; exact ⟨p1, p2, p3, rfl, h1.mono (fun _ _ h => .inl h)⟩) hb2
      simp only [over_actBI3] at hK3 ⊢
      clear hK hk
      unfold actBI3 at hK3 ⊢
      simp only [e24, e26, e28] at hK3 ⊢
      refine want_plain rfl ?_
      go_simp
      refine ⟨trivial, (callsIn_wide.2 hcall).mono ?_⟩
      rintro e w2 ⟨p1, p2, p3, rfl, h1, hbw⟩
      exact hK3 w2 p1 p2 p3 h1 hbw
    · intro o ho uu ok w hB hk K' hK
      cases ho
      obtain ⟨p1_29, p2_29, p3_29, e29, h29_1⟩ := hk 29 (by decide +kernel) rfl
      have hK3 := hK (.tuple #[tv (.slice p1_29 p2_29 p3_29) P.2.base, .int .i64 P.1]) w (fun s hs => by cases hs; exact ⟨p1_29, p2_29, p3_29, rfl, h29_1.mono (fun _ _ h => .inr h)⟩) (Below.refl _ _)
      simp only [over_actBI3] at hK3 ⊢
      clear hK hk
      unfold actBI3 at hK3 ⊢
      simp only [e29] at hK3 ⊢
      refine want_plain rfl ?_
      go_simp
      exact hK3
    · intro o ho uu ok w hB hk K' hK
      cases ho
      obtain ⟨p1_22, p2_22, p3_22, e22, h22_1⟩ := hk 22 (by decide +kernel) rfl
      have hK3 := hK (tv (.slice p1_22 p2_22 p3_22) P.2.base) w (fun s hs => by cases hs; exact ⟨p1_22, p2_22, p3_22, rfl, h22_1.mono (fun _ _ h => .inr h)⟩) (Below.refl _ _)
      simp only [over_actBI3] at hK3 ⊢
      clear hK hk
      unfold actBI3 at hK3 ⊢
      simp only [e22] at hK3 ⊢
      refine want_plain rfl ?_
      go_simp
      exact hK3
    · intro o ho uu ok w hB hk K' hK
      cases ho
      obtain ⟨p1_22, p2_22, p3_22, e22, h22_1⟩ := hk 22 (by decide +kernel) rfl
      have hK3 := hK (.int .i64 P.1) w (fun s hs => by cases hs; exact rfl) (Below.refl _ _)
      simp only [over_actBI3] at hK3 ⊢
      clear hK hk
      unfold actBI3 at hK3 ⊢
      simp only [e22] at hK3 ⊢
      refine want_plain rfl ?_
      go_simp
      exact hK3
    · intro o ho uu ok w hB hk K' hK
      cases ho
      have e31 : uu 31 = .int .i64 P.1 := hk 31 (by decide +kernel) rfl
      have hK3 := hK (.int .i64 P.1) w (fun s hs => by cases hs; exact rfl) (Below.refl _ _)
      simp only [over_actBI3] at hK3 ⊢
      clear hK hk
      unfold actBI3 at hK3 ⊢
      simp only [e31] at hK3 ⊢
      refine want_plain rfl ?_
      go_simp
      exact hK3
    · intro o ho uu w K' hK
      cases ho
      simp only [over_actBI3] at hK ⊢
      unfold actBI3 at hK ⊢
      refine want_plain rfl ?_
      go_simp
      exact hK
    · intro o ho uu ok w m hm hb hv K' hK
      cases ho
      dsimp only at hm hb hv hK
      obtain ⟨p1, p2, p3, e30, h1⟩ := hv
      have fz0 := hb.frozen 0
      have cz0 := hb.cell 0
      have fz1 := hb.frozen 1
      have cz1 := hb.cell 1
      have b9 := ((hb.set 0 (.slice p1 p2 p3)).set 1 (.int .i64 P.2.base))
      have o9 := (((Only.refl [m] w).set (B := m) (by simp) 0 (.slice p1 p2 p3)).set (B := m) (by simp) 1 (.int .i64 P.2.base))
      rw [e30] at hK
      have hK3 := hK _ b9 o9
      simp only [over_actBI3] at hK3 ⊢
      clear hK b9 o9
      unfold actBI3 at hK3 ⊢
      simp only [hm, e30] at hK3 ⊢
      refine want_plain rfl ?_
      go_simp
      exact hK3
    · intro uu w' hB hv hbx
      have e8 : uu 8 = .int .i64 P.1 := hv 8 (by decide +kernel) (by decide +kernel)
      obtain ⟨p1_30, p2_30, p3_30, e30, h30_1⟩ := hv 30 (by decide +kernel) (by decide +kernel)
      obtain ⟨m0, em0, gm0, bm0⟩ := hbx _ List.mem_cons_self
      simp only [e30] at bm0
      rw [over_actBI3]
      refine hKs _ _ ?_
      unfold actBI3
      simp only [e8, e30, em0]
      go_wp2_with fail
      go_meet
      exact ⟨m0, p1_30, p2_30, p3_30, rfl, rfl, bm0, h30_1.t, gm0, hB⟩
  case rest =>
  obtain ⟨M, qa, qn, qc, rfl, rfl, bM, hQ, hXM, hBc⟩ := hcut
  have hB3 : Below N w wc := bl2.trans (hBc.mono hz2)
  have l0 := k0.below hBc k0.lt
  have l1 := k1.below hBc k1.lt
  have kR' := kR (.slice c1 cn c2) (.slice m1 mn m2) (.slice z1 z2 z3) (.slice x1 x2 x3) (.slice y1 y2 y3) wc (hc2'.bel hBc) (hm2.bel hBc) (hx2.bel hBc) (ha2.bel hBc) (ha2'.bel hBc)
  have hz3 := hBc.size
  have g0 := l0.cell 0
  have g1 := l0.cell 1
  have g2 := l0.cell 2
  have g3 := l1.cell 0
  have g4 := l1.cell 1
  have g5 := l1.cell 2
  have g6 := l1.cell 3
  have g7 := l1.cell 4
  clear kR kI k0 k1 hc2' hm2 hx2 ha2 ha2'
  go_upto_region 4 with fail
  go_wp2_with fail
  refine kR'.mono ?_
  unfold RefTold
  rintro e w3 ⟨ra, rn, rc, rfl, hR, hb3⟩
  have hR' := hR.t
  have oM := bM.below hb3 bM.lt
  have hQ3 := hQ.bel hb3
  have hB4 : Below N w w3 := hB3.trans (hb3.mono (by omega))
  obtain ⟨Z, hZ⟩ : ∃ Z, w3.heap.size = Z := ⟨_, rfl⟩
  obtain ⟨W4, hW4⟩ : ∃ W4, w3.alloc (.cells #[.slice ra rn rc, .int .i64 P.2.base] 24) = W4 := ⟨_, rfl⟩
  have hb4 : Below w3.heap.size w3 W4 := by rw [← hW4]; exact (Below.refl _ _).alloc (Nat.le_refl _) _
  have hz4 := hb3.size
  have hB5 : Below N w W4 := hB4.trans (hb4.mono (by omega))
  have bZ : Blk W4 Z 24 #[.slice ra rn rc, .int .i64 P.2.base] := by rw [← hW4]; exact Blk.new' w3 Z 24 _ hZ
  have nM := oM.below hb4 oM.lt
  have hQ4 := hQ3.bel hb4
  have hR4 := hR'.bel hb4
  have hz5 : N ≤ W4.heap.size := by have := hb4.size; omega
  have HW4 : Hid _ := hW4
  clear hW4 kR' g0 g1 g2 g3 g4 g5 g6 g7 hR hR' hQ hQ3 bM oM l0 l1 hb3 hb4 hB3 hB4
  go_upto_region 5 with fail
  rw [HW4.out]
  clear HW4
  rename_i K Q' hKs
  refine (wpIn_wide (n := 9)).1 ?_
  show Code.wpIn Fence.wide 9 Try.prog (Code.region 5 _ true) _ (actI5 P M Z (wov bs (.slice c1 cn c2) (.slice m1 mn m2)) (.slice z1 z2 z3) (rwv a.kind (.slice x1 x2 x3) a.ty.base a.idx (.slice y1 y2 y3)) (.pointer (some ⟨N, 0, none⟩)) (undef) (.pointer (some ⟨N + 1, 0, none⟩)) (u11) (u12) (u13) (u14) (u15) (u16) (u17) (u18) (u19) (u20) (u21) (u22) (u23) (u24) (u25) (u26) (u27) (u28) (u29) (u30) (u31) (.tuple #[tv (.slice ra rn rc) P.2.base, .int .i64 P.1]) (.agg #[.int .i64 bs, .slice c1 cn c2, .slice m1 mn m2]) (.slice z1 z2 z3) (.agg #[.int .i64 a.kind, .slice x1 x2 x3, .int .i64 a.ty.base, .int .i64 a.idx, .slice y1 y2 y3]) (.tuple #[tv (.slice ra rn rc) P.2.base, .int .i64 P.1]) (tv (.slice ra rn rc) P.2.base) (.int .i64 P.1) (fun | 6 => .bool false | 39 => u39 | 40 => u40 | 41 => u41 | 42 => u42 | 43 => u43 | 44 => u44 | 45 => u45 | 46 => u46 | 47 => u47 | 48 => u48 | 49 => u49 | 50 => u50 | _ => undef)) W4
  refine region_spine [(0, 0), (1, 0), (2, 0), (3, 0), (4, 0), (5, 0), (6, 0), (7, 0), (8, 0), (9, 0), (10, 0), (11, 0), (12, 0)] [] (fun s => Nat.beq s 6 || (Nat.ble 39 s && Nat.ble s 50)) (fun _ => VI5 P qa ra qn qc rn rc) (fun _ w => Below (W4).heap.size W4 w) (by kernel_rfl) (by kernel_rfl) (by kernel_rfl) (by kernel_rfl) (fun _ _ _ _ _ h hb => h.mono hb) (fun _ _ _ h hb => h.trans (hb.mono h.size)) ((Below.refl _ _).drew) ⟨?_, ?_, ?_, ?_, ?_, ?_, ?_, ?_, ?_, ?_, ?_, ?_, ?_, trivial⟩ trivial ?_
  · intro o ho p hp _ z w hB hk K' hK
    cases ho
    have hcall := known_calls w
    have hK3 := fun (w2 : World) (hb2 : Below w.heap.size w w2) => hK (.bool true) w2 (fun s hs => by cases hs; exact rfl) hb2
    simp only [over_actI5] at hK3 ⊢
    clear hK hk
    unfold actI5 at hK3 ⊢
    refine want_plain rfl ?_
    go_simp
    refine ⟨trivial, (callsIn_wide.2 hcall).mono ?_⟩
    rintro e w2 ⟨rfl, hb2⟩
    exact hK3 w2 hb2
  · intro o ho p hp _ z w hB hk K' hK
    cases ho
    have e39 : z 39 = .bool true := hk 39 (by decide +kernel) rfl
    have hK3 := hK (.bool true) w (fun s hs => by cases hs; exact rfl) (Below.refl _ _)
    simp only [over_actI5] at hK3 ⊢
    clear hK hk
    unfold actI5 at hK3 ⊢
    simp only [e39] at hK3 ⊢
    refine want_plain rfl ?_
    go_simp
    exact hK3
  · intro o ho p hp _ z w hB hk K' hK
    cases ho
    have e40 : z 40 = .bool true := hk 40 (by decide +kernel) rfl
    have hK3 := hK (.int .i64 P.1) w (fun s hs => by cases hs; exact rfl) (Below.refl _ _)
    simp only [over_actI5] at hK3 ⊢
    clear hK hk
    unfold actI5 at hK3 ⊢
    simp only [e40] at hK3 ⊢
    refine want_yes rfl (by rfl) ?_
    go_simp
    exact hK3
  · intro o ho p hp _ z w hB hk K' hK
    cases ho
    have e40 : z 40 = .bool true := hk 40 (by decide +kernel) rfl
    have hK3 := hK (.int .i64 P.1) w (fun s hs => by cases hs; exact rfl) (Below.refl _ _)
    simp only [over_actI5] at hK3 ⊢
    clear hK hk
    unfold actI5 at hK3 ⊢
    simp only [e40] at hK3 ⊢
    refine want_yes rfl (by rfl) ?_
    go_simp
    exact hK3
  · intro o ho p hp _ z w hB hk K' hK
    cases ho
    have e41 : z 41 = .int .i64 P.1 := hk 41 (by decide +kernel) rfl
    have e42 : z 42 = .int .i64 P.1 := hk 42 (by decide +kernel) rfl
    have e40 : z 40 = .bool true := hk 40 (by decide +kernel) rfl
    have hK3 := hK (.bool true) w (fun s hs => by cases hs; exact rfl) (Below.refl _ _)
    simp only [over_actI5] at hK3 ⊢
    clear hK hk
    unfold actI5 at hK3 ⊢
    simp only [e41, e42, e40] at hK3 ⊢
    refine want_yes rfl (by rfl) ?_
    go_simp
    exact hK3
  · intro o ho p hp _ z w hB hk K' hK
    cases ho
    have e40 : z 40 = .bool true := hk 40 (by decide +kernel) rfl
    have e43 : z 43 = .bool true := hk 43 (by decide +kernel) rfl
    have hK3 := hK (.bool true) w (fun s hs => by cases hs; exact rfl) (Below.refl _ _)
    simp only [over_actI5] at hK3 ⊢
    clear hK hk
    unfold actI5 at hK3 ⊢
    simp only [e40, e43] at hK3 ⊢
    refine want_plain rfl ?_
    go_simp
    exact hK3
  · intro o ho p hp _ z w hB hk K' hK
    cases ho
    have e44 : z 44 = .bool true := hk 44 (by decide +kernel) rfl
    have hK3 := hK (.bool true) w (fun s hs => by cases hs; exact rfl) (Below.refl _ _)
    simp only [over_actI5] at hK3 ⊢
    clear hK hk
    unfold actI5 at hK3 ⊢
    simp only [e44] at hK3 ⊢
    refine want_plain rfl ?_
    go_simp
    exact hK3
  · intro o ho p hp _ z w hB hk K' hK
    cases ho
    have e45 : z 45 = .bool true := hk 45 (by decide +kernel) rfl
    have u0 := (cat hB nM.lt).trans (nM.cell 0)
    have u1 := (cat hB nM.lt).trans (nM.cell 1)
    have hK3 := hK (tv (.slice qa qn qc) P.2.base) w (fun s hs => by cases hs; exact rfl) (Below.refl _ _)
    simp only [over_actI5] at hK3 ⊢
    clear hK hk
    unfold actI5 at hK3 ⊢
    simp only [e45] at hK3 ⊢
    refine want_yes rfl (by rfl) ?_
    go_simp
    exact hK3
  · intro o ho p hp _ z w hB hk K' hK
    cases ho
    have e46 : z 46 = tv (.slice qa qn qc) P.2.base := hk 46 (by decide +kernel) rfl
    have e45 : z 45 = .bool true := hk 45 (by decide +kernel) rfl
    have hcall := Of_calls P.2 okT _ w (hQ4.bel hB) (by omega)
    have hK3 := fun (w2 : World) (g1 : Option Addr) (gn g2 : Nat) (h1 : Holds w2 okT P.2.args (.slice g1 gn g2)) (hb2 : Below w.heap.size w w2) => hK (tv (.slice g1 gn g2) P.2.base) w2 (fun s hs => by cases hs; exact ⟨g1, gn, g2, rfl, h1⟩) hb2
    simp only [over_actI5] at hK3 ⊢
    clear hK hk
    unfold actI5 at hK3 ⊢
    simp only [e46, e45] at hK3 ⊢
    refine want_yes rfl (by rfl) ?_
    go_simp
    refine ⟨trivial, (callsIn_wide.2 hcall).mono ?_⟩
    rintro e w2 ⟨vb, rfl, h1, hb2⟩
    obtain ⟨g1, g2, rfl, _⟩ := h1.shape
    exact hK3 w2 g1 _ g2 h1.t hb2
  · intro o ho p hp _ z w hB hk K' hK
    cases ho
    have e45 : z 45 = .bool true := hk 45 (by decide +kernel) rfl
    have u0 := (cat hB bZ.lt).trans (bZ.cell 0)
    have u1 := (cat hB bZ.lt).trans (bZ.cell 1)
    have hK3 := hK (tv (.slice ra rn rc) P.2.base) w (fun s hs => by cases hs; exact rfl) (Below.refl _ _)
    simp only [over_actI5] at hK3 ⊢
    clear hK hk
    unfold actI5 at hK3 ⊢
    simp only [e45] at hK3 ⊢
    refine want_yes rfl (by rfl) ?_
    go_simp
    exact hK3
  · intro o ho p hp _ z w hB hk K' hK
    cases ho
    have e48 : z 48 = tv (.slice ra rn rc) P.2.base := hk 48 (by decide +kernel) rfl
    have e45 : z 45 = .bool true := hk 45 (by decide +kernel) rfl
    obtain ⟨g1, gn, g2, e47, h47⟩ := hk 47 (by decide +kernel) rfl
    have hs49 := Same_calls P.2 P.2 okT okT _ _ w h47 (hR4.bel hB) (by omega)
    rw [P.2.same_self] at hs49
    have hcall := hs49
    have hK3 := fun (w2 : World) (hb2 : Below w.heap.size w w2) => hK (.bool true) w2 (fun s hs => by cases hs; exact rfl) hb2
    simp only [over_actI5] at hK3 ⊢
    clear hK hk
    unfold actI5 at hK3 ⊢
    simp only [e48, e45, e47] at hK3 ⊢
    refine want_yes rfl (by rfl) ?_
    go_simp
    refine ⟨trivial, (callsIn_wide.2 hcall).mono ?_⟩
    rintro e w2 ⟨rfl, hb2⟩
    exact hK3 w2 hb2
  · intro o ho p hp _ z w hB hk K' hK
    cases ho
    have e45 : z 45 = .bool true := hk 45 (by decide +kernel) rfl
    have e49 : z 49 = .bool true := hk 49 (by decide +kernel) rfl
    have hK3 := hK (.bool true) w (fun s hs => by cases hs; exact rfl) (Below.refl _ _)
    simp only [over_actI5] at hK3 ⊢
    clear hK hk
    unfold actI5 at hK3 ⊢
    simp only [e45, e49] at hK3 ⊢
    refine want_plain rfl ?_
    go_simp
    exact hK3
  · intro o ho p hp _ z w hB hk K' hK
    cases ho
    have e50 : z 50 = .bool true := hk 50 (by decide +kernel) rfl
    have hK3 := hK (.bool true) w (fun s hs => by cases hs; exact rfl) (Below.refl _ _)
    simp only [over_actI5] at hK3 ⊢
    clear hK hk
    unfold actI5 at hK3 ⊢
    simp only [e50] at hK3 ⊢
    refine want_plain rfl ?_
    go_simp
    exact hK3
  · intro z w' hB hv
    have e6 : z 6 = .bool true := hv 6 (by decide +kernel)
    rw [over_actI5]
    refine hKs _ _ ?_
    unfold actI5
    simp only [e6]
    have B9 : Below N w w' := hB5.trans (hB.mono hz5)
    go_wp2
    go_ret
    exact ⟨rfl, B9⟩

end Go.Proofs.Ytckagmagjogmnaa
