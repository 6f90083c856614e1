/-
  RawParts comes out true: the walk.
-/
import Derived.Test.YtckagmagjogmnaaKnownR
import Derived.Test.YtckagmagjogmnaaFewR
import Derived.Test.YtckagmagjogmnaaToR
import Derived.Test.YtckagmagjogmnaaOfR
import Derived.Test.YtckagmagjogmnaaRefR
import Derived.Test.YtckagmagjogmnaaSameR
import Derived.Test.YtckagmagjogmnaaLooseR
import Derived.Test.YtckagmagjogmnaaRightR
import Derived.Test.YtckagmagjogmnaaSizeR
namespace Go.Proofs.Ytckagmagjogmnaa
open Go Go.RowKit Go.Sort

theorem holdsR_pair {w : World} {ok : Nat → Prop} {B : Nat} {s1 r1 s2 r2 : Value} {f a : Rw} {e : TypeId} (hk : Blk w B e #[.int .i64 f.kind, s1, .int .i64 f.ty.base, .int .i64 f.idx, r1, .int .i64 a.kind, s2, .int .i64 a.ty.base, .int .i64 a.idx, r2]) (hB : ok B)
    (h1 : Holds w ok f.ty.args s1) (h2 : HoldsR w ok f.kids r1) (h3 : Holds w ok a.ty.args s2) (h4 : HoldsR w ok a.kids r2) : HoldsR w ok [f, a] (.slice (some ⟨B, 0, none⟩) 2 2) := by
  refine HoldsR.mk [f, a] (some ⟨B, 0, none⟩) 2 (fun i => if i = 0 then s1 else s2) (fun i => if i = 0 then r1 else r2) (Nat.le_refl _) (fun h => by cases h) ?_ ?_ ?_
  · intro i u hi
    match i, hi with
    | 0, hi => cases hi; exact ⟨B, 0, rfl, hB, hk.cell 0, hk.cell 1, hk.cell 2, hk.cell 3, hk.cell 4⟩
    | 1, hi => cases hi; exact ⟨B, 0, rfl, hB, hk.cell 5, hk.cell 6, hk.cell 7, hk.cell 8, hk.cell 9⟩
    | i + 2, hi => simp at hi
  · intro i u hi
    match i, hi with
    | 0, hi => cases hi; exact h1
    | 1, hi => cases hi; exact h3
    | i + 2, hi => simp at hi
  · intro i u hi
    match i, hi with
    | 0, hi => cases hi; exact h2
    | 1, hi => cases hi; exact h4
    | i + 2, hi => simp at hi

def actBP7 (N : Nat) (y0 y1 y4 y7 y8 y9 y10 y11 y12 y17 y18 y19 y20 y21 y22 y23 y24 y25 y26 y27 y28 y29 y30 y31 y32 y33 y34 y35 y36 y37 y38 y39 y40 y41 y42 y43 y44 y45 y46 y47 y48 y49 y50 y51 y52 y53 y54 y55 y56 y57 y58 : Value) (u : Nat → Value) : Act :=
  { tmps := #[y0, y1, .pointer (some ⟨N, 0, none⟩), .pointer (some ⟨N + 1, 0, none⟩), y4, u 5, u 6, y7, y8, y9, y10, y11, y12, u 13, u 14, u 15, u 16, y17, y18, y19, y20, y21, y22, y23, y24, y25, y26, y27, y28, y29, y30, y31, y32, y33, y34, y35, y36, y37, y38, y39, y40, y41, y42, y43, y44, y45, y46, y47, y48, y49, y50, y51, y52, y53, y54, y55, y56, y57, y58], defers := [] }
set_option maxRecDepth 100000 in
theorem over_actBP7 (N : Nat) (y0 y1 y4 y7 y8 y9 y10 y11 y12 y17 y18 y19 y20 y21 y22 y23 y24 y25 y26 y27 y28 y29 y30 y31 y32 y33 y34 y35 y36 y37 y38 y39 y40 y41 y42 y43 y44 y45 y46 y47 y48 y49 y50 y51 y52 y53 y54 y55 y56 y57 y58 : Value) (u0 u : Nat → Value) : over (fun s => (Nat.ble 5 s && Nat.ble s 6) || (Nat.ble 13 s && Nat.ble s 16)) u (actBP7 N y0 y1 y4 y7 y8 y9 y10 y11 y12 y17 y18 y19 y20 y21 y22 y23 y24 y25 y26 y27 y28 y29 y30 y31 y32 y33 y34 y35 y36 y37 y38 y39 y40 y41 y42 y43 y44 y45 y46 y47 y48 y49 y50 y51 y52 y53 y54 y55 y56 y57 y58 u0) = actBP7 N y0 y1 y4 y7 y8 y9 y10 y11 y12 y17 y18 y19 y20 y21 y22 y23 y24 y25 y26 y27 y28 y29 y30 y31 y32 y33 y34 y35 y36 y37 y38 y39 y40 y41 y42 y43 y44 y45 y46 y47 y48 y49 y50 y51 y52 y53 y54 y55 y56 y57 y58 u := rfl
def VBP7 (a b : Rw) (va vb : Value) (s : Nat) (w : World) (ok : Nat → Prop) (v : Value) : Prop := match s with
  | 13 => v = va
  | 14 => ∃ a1 n1 c1 a2 n2 c2, v = rwv a.kind (.slice a1 n1 c1) a.ty.base a.idx (.slice a2 n2 c2) ∧ Holds w ok a.ty.args (.slice a1 n1 c1) ∧ HoldsR w ok a.kids (.slice a2 n2 c2)
  | 15 => v = vb
  | 16 => ∃ a1 n1 c1 a2 n2 c2, v = rwv b.kind (.slice a1 n1 c1) b.ty.base b.idx (.slice a2 n2 c2) ∧ Holds w ok b.ty.args (.slice a1 n1 c1) ∧ HoldsR w ok b.kids (.slice a2 n2 c2)
  | _ => True
theorem VBP7.keep (a b : Rw) (va vb : Value) (s : Nat) (w w' : World) (ok ok' : Nat → Prop) (v : Value) (h : VBP7 a b va vb s w ok v) (hsz : w.heap.size ≤ w'.heap.size) (hkp : ∀ m, m < w.heap.size → ok m → w'.heap[m]? = w.heap[m]? ∧ ok' m) : VBP7 a b va vb s w' ok' v := by
  have _ := hsz
  revert h
  unfold VBP7
  split <;> intro h
  · exact h
  · obtain ⟨a1, n1, c1, a2, n2, c2, e0, h1, h2⟩ := h; exact ⟨a1, n1, c1, a2, n2, c2, e0, h1.keep hkp, h2.keep hkp⟩
  · exact h
  · obtain ⟨a1, n1, c1, a2, n2, c2, e0, h1, h2⟩ := h; exact ⟨a1, n1, c1, a2, n2, c2, e0, h1.keep hkp, h2.keep hkp⟩
  · trivial

def actQ7 (N M0 M1 : Nat) (y0 y1 y7 y8 y9 y10 y11 y12 y13 y14 y15 y16 : Value) (u : Nat → Value) : Act :=
  { tmps := #[y0, y1, .pointer (some ⟨N, 0, none⟩), .pointer (some ⟨N + 1, 0, none⟩), u 4, .pointer (some ⟨M0, 0, none⟩), .pointer (some ⟨M1, 0, none⟩), y7, y8, y9, y10, y11, y12, y13, y14, y15, y16, u 17, u 18, u 19, u 20, u 21, u 22, u 23, u 24, u 25, u 26, u 27, u 28, u 29, u 30, u 31, u 32, u 33, u 34, u 35, u 36, u 37, u 38, u 39, u 40, u 41, u 42, u 43, u 44, u 45, u 46, u 47, u 48, u 49, u 50, u 51, u 52, u 53, u 54, u 55, u 56, u 57, u 58], defers := [] }
set_option maxRecDepth 100000 in
theorem over_actQ7 (N M0 M1 : Nat) (y0 y1 y7 y8 y9 y10 y11 y12 y13 y14 y15 y16 : Value) (u0 u : Nat → Value) : over (fun s => Nat.beq s 4 || (Nat.ble 17 s && Nat.ble s 58)) u (actQ7 N M0 M1 y0 y1 y7 y8 y9 y10 y11 y12 y13 y14 y15 y16 u0) = actQ7 N M0 M1 y0 y1 y7 y8 y9 y10 y11 y12 y13 y14 y15 y16 u := rfl
def VQ7 (a b : Rw) (x1 y1 z1 v1 p1 q1 s1 t1 : Option Addr) (x2 x3 y2 y3 z2 z3 v2 v3 p2 p3 q2 q3 s2 s3 t2 t3 : Nat) (s : Nat) (w : World) (v : Value) : Prop := match s with
  | 17 => v = .bool true
  | 18 => v = .bool true
  | 19 => v = rwv a.kind (.slice p1 p2 p3) a.ty.base a.idx (.slice q1 q2 q3)
  | 20 => v = .bool a.right
  | 21 => v = rwv a.kind (.slice x1 x2 x3) a.ty.base a.idx (.slice y1 y2 y3)
  | 22 => v = .bool a.right
  | 23 => v = .bool true
  | 24 => v = .bool true
  | 25 => v = .bool true
  | 26 => v = rwv a.kind (.slice p1 p2 p3) a.ty.base a.idx (.slice q1 q2 q3)
  | 27 => v = .int .i64 (a.size : Int)
  | 28 => v = rwv a.kind (.slice x1 x2 x3) a.ty.base a.idx (.slice y1 y2 y3)
  | 29 => v = .int .i64 (a.size : Int)
  | 30 => v = .bool true
  | 31 => v = .bool true
  | 32 => v = .bool true
  | 33 => v = rwv a.kind (.slice p1 p2 p3) a.ty.base a.idx (.slice q1 q2 q3)
  | 34 => v = .int .i64 (a.loose 0 : Int)
  | 35 => v = rwv a.kind (.slice x1 x2 x3) a.ty.base a.idx (.slice y1 y2 y3)
  | 36 => v = .int .i64 (a.loose 0 : Int)
  | 37 => v = .bool true
  | 38 => v = .bool true
  | 39 => v = .bool true
  | 40 => v = rwv a.kind (.slice p1 p2 p3) a.ty.base a.idx (.slice q1 q2 q3)
  | 41 => v = rwv b.kind (.slice s1 s2 s3) b.ty.base b.idx (.slice t1 t2 t3)
  | 42 => v = .bool (a.same b)
  | 43 => v = rwv a.kind (.slice x1 x2 x3) a.ty.base a.idx (.slice y1 y2 y3)
  | 44 => v = rwv b.kind (.slice z1 z2 z3) b.ty.base b.idx (.slice v1 v2 v3)
  | 45 => v = .bool (a.same b)
  | 46 => v = .bool true
  | 47 => v = .bool true
  | 48 => v = .bool true
  | 49 => v = rwv a.kind (.slice p1 p2 p3) a.ty.base a.idx (.slice q1 q2 q3)
  | 50 => v = rwv a.kind (.slice p1 p2 p3) a.ty.base a.idx (.slice q1 q2 q3)
  | 51 => v = .bool true
  | 52 => v = .bool true
  | 53 => v = .bool true
  | 54 => v = rwv a.kind (.slice p1 p2 p3) a.ty.base a.idx (.slice q1 q2 q3)
  | 55 => ∃ g1 gn g2 l1 ln l2, v = rwv a.kind (.slice g1 gn g2) a.ty.base a.idx (.slice l1 ln l2) ∧ Holds w okT a.ty.args (.slice g1 gn g2) ∧ HoldsR w okT a.kids (.slice l1 ln l2)
  | 56 => v = rwv a.kind (.slice x1 x2 x3) a.ty.base a.idx (.slice y1 y2 y3)
  | 57 => v = .bool true
  | 58 => v = .bool true
  | 4 => v = .bool true
  | _ => True
theorem VQ7.mono {a b : Rw} {x1 y1 z1 v1 p1 q1 s1 t1 : Option Addr} {x2 x3 y2 y3 z2 z3 v2 v3 p2 p3 q2 q3 s2 s3 t2 t3 : Nat} {s : Nat} {w w' : World} {v : Value} (h : VQ7 a b x1 y1 z1 v1 p1 q1 s1 t1 x2 x3 y2 y3 z2 z3 v2 v3 p2 p3 q2 q3 s2 s3 t2 t3 s w v) (hb : Below w.heap.size w w') : VQ7 a b x1 y1 z1 v1 p1 q1 s1 t1 x2 x3 y2 y3 z2 z3 v2 v3 p2 p3 q2 q3 s2 s3 t2 t3 s w' v := by
  revert h
  unfold VQ7
  split <;> intro h
  · exact h
  · exact h
  · exact h
  · exact h
  · exact h
  · exact h
  · exact h
  · exact h
  · exact h
  · exact h
  · exact h
  · exact h
  · exact h
  · exact h
  · exact h
  · exact h
  · exact h
  · exact h
  · exact h
  · exact h
  · exact h
  · exact h
  · exact h
  · exact h
  · exact h
  · exact h
  · exact h
  · exact h
  · exact h
  · exact h
  · exact h
  · exact h
  · exact h
  · exact h
  · exact h
  · exact h
  · exact h
  · exact h
  · obtain ⟨g1, gn, g2, l1, ln, l2, e, h1, h2⟩ := h; exact ⟨g1, gn, g2, l1, ln, l2, e, h1.bel hb, h2.bel hb⟩
  · exact h
  · exact h
  · exact h
  · exact h
  · trivial

set_option maxRecDepth 100000 in
set_option maxHeartbeats 8000000 in
theorem Parts_calls (a b : Rw) (sa ra sb rb : Value) (w : World) (ha : Holds w okT a.ty.args sa) (ha' : HoldsR w okT a.kids ra) (hb : Holds w okT b.ty.args sb) (hb' : HoldsR w okT b.kids rb) (hrg : a.rng) :
    Calls Try.prog 3 #[rwv a.kind sa a.ty.base a.idx ra, rwv b.kind sb b.ty.base b.idx rb] w fun e w' => e = .returned (.bool true) ∧ Below w.heap.size w w' := by
  obtain ⟨x1, x3, rfl, _⟩ := ha.shape
  obtain ⟨y1, y3, rfl, _⟩ := ha'.shape
  obtain ⟨z1, z3, rfl, _⟩ := hb.shape
  obtain ⟨v1, v3, rfl, _⟩ := hb'.shape
  obtain ⟨x2, hx2⟩ : ∃ n, a.ty.args.length = n := ⟨_, rfl⟩
  obtain ⟨y2, hy2⟩ : ∃ n, a.kids.length = n := ⟨_, rfl⟩
  obtain ⟨z2, hz2⟩ : ∃ n, b.ty.args.length = n := ⟨_, rfl⟩
  obtain ⟨v2, hv2⟩ : ∃ n, b.kids.length = n := ⟨_, rfl⟩
  rw [hx2] at ha ⊢
  rw [hy2] at ha' ⊢
  rw [hz2] at hb ⊢
  rw [hv2] at hb' ⊢
  obtain ⟨N, hN⟩ : ∃ N, w.heap.size = N := ⟨_, rfl⟩
  rw [hN]
  obtain ⟨W0, hW0⟩ : ∃ W0, (w.alloc (.cells #[.int .i64 a.kind, .slice x1 x2 x3, .int .i64 a.ty.base, .int .i64 a.idx, .slice y1 y2 y3] 27)).alloc (.cells #[.int .i64 b.kind, .slice z1 z2 z3, .int .i64 b.ty.base, .int .i64 b.idx, .slice v1 v2 v3] 27) = W0 := ⟨_, rfl⟩
  have b0 : Blk W0 N 27 #[.int .i64 a.kind, .slice x1 x2 x3, .int .i64 a.ty.base, .int .i64 a.idx, .slice y1 y2 y3] := by rw [← hW0]; exact (Blk.new' w N 27 _ hN).alloc _
  have b1 : Blk W0 (N + 1) 27 #[.int .i64 b.kind, .slice z1 z2 z3, .int .i64 b.ty.base, .int .i64 b.idx, .slice v1 v2 v3] := by rw [← hW0]; exact Blk.new' _ (N + 1) 27 _ (by simp [hN])
  have hz0 : W0.heap.size = N + 2 := by rw [← hW0]; simp [hN]
  have bl0 : Below N w W0 := by rw [← hW0]; exact ((Below.refl N w).alloc (by omega) _).alloc (by simp; omega) _
  have ha0 := ha.bel (hN ▸ bl0)
  have ha0' := ha'.bel (hN ▸ bl0)
  have hb0 := hb.bel (hN ▸ bl0)
  have hb0' := hb'.bel (hN ▸ bl0)
  obtain ⟨W1, hW1⟩ : ∃ W1, W0.alloc (.cells #[.int .i64 a.kind, .slice x1 x2 x3, .int .i64 a.ty.base, .int .i64 a.idx, .slice y1 y2 y3, .int .i64 b.kind, .slice z1 z2 z3, .int .i64 b.ty.base, .int .i64 b.idx, .slice v1 v2 v3] 27) = W1 := ⟨_, rfl⟩
  have bb1 : Below W0.heap.size W0 W1 := by rw [← hW1]; exact (Below.refl _ _).alloc (Nat.le_refl _) _
  have hF1 : HoldsR W1 okT [a, b] (.slice (some ⟨N + 2, 0, none⟩) 2 2) := holdsR_pair (by rw [← hW1]; exact Blk.new' W0 (N + 2) 27 _ hz0) trivial (ha0.bel bb1) (ha0'.bel bb1) (hb0.bel bb1) (hb0'.bel bb1)
  obtain ⟨r1, hr1⟩ : ∃ r, (fewRB 300 70 a && fewRB 300 70 b) = r := ⟨_, rfl⟩
  have hfl := FewL_calls [a, b] okT _ W1 hF1 (by simp)
  rw [show [a, b].all (fewRB 300 70) = r1 by rw [← hr1]; simp] at hfl
  have HR1 : Hid _ := hr1
  have HW : Hid _ := hW0
  have HW1 : Hid _ := hW1
  have c0 := b0.cell 0
  have c1 := b0.cell 1
  have c2 := b0.cell 2
  have c3 := b0.cell 3
  have c4 := b0.cell 4
  have d0 := b1.cell 0
  have d1 := b1.cell 1
  have d2 := b1.cell 2
  have d3 := b1.cell 3
  have d4 := b1.cell 4
  have hzN : N ≤ W0.heap.size := by omega
  clear hW0 hW1 hr1 hF1 ha ha' hb hb'
  go_enter Try.func3, Try.ntmps3
  go_upto_region 1 with fail
  rw [HW.out]
  clear HW
  go_wp2_with fail
  rw [HW1.out]
  clear HW1
  refine hfl.mono ?_
  rintro e w1 ⟨rfl, hb1⟩
  have hc1 : Cur W0 w1 := (show Cur W0 W1 from bb1).then hb1
  clear hfl hb1 bb1 c0 c1 c2 c3 c4 d0 d1 d2 d3 d4
  cases r1 with
  | false =>
    go_wp2_with fail
    refine (known_calls _).mono ?_
    rintro e w4 ⟨rfl, hb4⟩
    go_wp2
    go_ret
    exact ⟨rfl, bl0.trans (Below.mono (hc1.then hb4) hzN)⟩
  | true =>
  have htota := total_of_few ((Bool.and_eq_true _ _).mp HR1.out).1
  have htotb := total_of_few ((Bool.and_eq_true _ _).mp HR1.out).2
  clear HR1
  have k0 := b0.below hc1 b0.lt
  have k1 := b1.below hc1 b1.lt
  have ha1 := hc1.holds ha0
  have ha1' := ha0'.bel hc1
  have hb1 := hc1.holds hb0
  have hb1' := hb0'.bel hc1
  have bl1 : Below N w w1 := bl0.trans (Below.mono hc1 hzN)
  have hz1 : N ≤ w1.heap.size := by have := bl1.size; omega
  have hsa := a.size_le_total
  have hsb := b.size_le_total
  clear b0 b1 bl0 ha0 ha0' hb0 hb0' hc1 hz0 hzN
  go_upto_region 3 with fail
  rename_i K Q' hKs
  refine (wpIn_wide (n := 9)).1 ?_
  show Code.wpIn Fence.wide 9 Try.prog (Code.region 3 _ true) _ (actBP7 N (rwv a.kind (.slice x1 x2 x3) a.ty.base a.idx (.slice y1 y2 y3)) (rwv b.kind (.slice z1 z2 z3) b.ty.base b.idx (.slice v1 v2 v3)) (.bool false) (.agg #[.int .i64 a.kind, .slice x1 x2 x3, .int .i64 a.ty.base, .int .i64 a.idx, .slice y1 y2 y3]) (.agg #[.int .i64 b.kind, .slice z1 z2 z3, .int .i64 b.ty.base, .int .i64 b.idx, .slice v1 v2 v3]) (.slice (some ⟨N + 2, 0, none⟩) 2 2) (.bool true) (.bool false) (undef) (undef) (undef) (undef) (undef) (undef) (undef) (undef) (undef) (undef) (undef) (undef) (undef) (undef) (undef) (undef) (undef) (undef) (undef) (undef) (undef) (undef) (undef) (undef) (undef) (undef) (undef) (undef) (undef) (undef) (undef) (undef) (undef) (undef) (undef) (undef) (undef) (undef) (undef) (undef) (undef) (undef) (undef) (fun | 5 => undef | 6 => undef | 13 => undef | 14 => undef | 15 => undef | 16 => undef | _ => undef)) w1
  refine region_boxes [(0, 0), (1, 0), (2, 0), (3, 0)] [⟨5, 14, 35, #[.int .i64 0, .slice none 0 0, .int .i64 0, .int .i64 0, .slice none 0 0], 4, 0, 6⟩, ⟨6, 16, 35, #[.int .i64 0, .slice none 0 0, .int .i64 0, .int .i64 0, .slice none 0 0], 5, 0, 7⟩] (fun s => (Nat.ble 5 s && Nat.ble s 6) || (Nat.ble 13 s && Nat.ble s 16)) (VBP7 a b (rwv a.kind (.slice x1 x2 x3) a.ty.base a.idx (.slice y1 y2 y3)) (rwv b.kind (.slice z1 z2 z3) b.ty.base b.idx (.slice v1 v2 v3))) (by kernel_rfl) (by kernel_rfl) (by kernel_rfl) (by kernel_rfl) (by kernel_rfl) (by kernel_rfl) (by kernel_rfl) (VBP7.keep a b (rwv a.kind (.slice x1 x2 x3) a.ty.base a.idx (.slice y1 y2 y3)) (rwv b.kind (.slice z1 z2 z3) b.ty.base b.idx (.slice v1 v2 v3))) ⟨?_, ?_, ?_, ?_, trivial⟩ ⟨⟨?_, ?_⟩, ⟨?_, ?_⟩, trivial⟩ ?_
  · intro o ho uu ok w hB hk K' hK
    cases ho
    have g0 := (cat hB k0.lt).trans (k0.cell 0)
    have g1 := (cat hB k0.lt).trans (k0.cell 1)
    have g2 := (cat hB k0.lt).trans (k0.cell 2)
    have g3 := (cat hB k0.lt).trans (k0.cell 3)
    have g4 := (cat hB k0.lt).trans (k0.cell 4)
    have hK3 := hK (rwv a.kind (.slice x1 x2 x3) a.ty.base a.idx (.slice y1 y2 y3)) w (fun s hs => by cases hs; exact rfl) (Below.refl _ _)
    simp only [over_actBP7] at hK3 ⊢
    clear hK hk
    unfold actBP7 at hK3 ⊢
    refine want_plain rfl ?_
    go_simp
    exact hK3
  · intro o ho uu ok w hB hk K' hK
    cases ho
    have e13 : uu 13 = rwv a.kind (.slice x1 x2 x3) a.ty.base a.idx (.slice y1 y2 y3) := hk 13 (by decide +kernel) rfl
    have hcall := ToR_calls a okT _ _ w (ha1.bel hB) (ha1'.bel hB) (by omega)
    have hK3 := fun (w2 : World) (a1 : Option Addr) (n1 c1 : Nat) (a2 : Option Addr) (n2 c2 : Nat) (h1 : Holds w2 (fun m => w.heap.size ≤ m) a.ty.args (.slice a1 n1 c1)) (h2 : HoldsR w2 (fun m => w.heap.size ≤ m) a.kids (.slice a2 n2 c2)) (hb2 : Below w.heap.size w w2) => hK (rwv a.kind (.slice a1 n1 c1) a.ty.base a.idx (.slice a2 n2 c2)) w2 (fun s hs => by cases hs; exact ⟨a1, n1, c1, a2, n2, c2, rfl, h1.mono (fun _ _ h => .inl h), h2.mono (fun _ _ h => .inl h)⟩) hb2
    simp only [over_actBP7] at hK3 ⊢
    clear hK hk
    unfold actBP7 at hK3 ⊢
    simp only [e13] at hK3 ⊢
    refine want_plain rfl ?_
    go_simp
    refine ⟨trivial, (callsIn_wide.2 hcall).mono ?_⟩
    rintro e w2 ⟨vb, vr, rfl, h1, h2, hbw⟩
    obtain ⟨a1, c1, rfl, _⟩ := h1.shape
    obtain ⟨a2, c2, rfl, _⟩ := h2.shape
    exact hK3 w2 a1 _ c1 a2 _ c2 h1 h2 hbw
  · intro o ho uu ok w hB hk K' hK
    cases ho
    have g0 := (cat hB k1.lt).trans (k1.cell 0)
    have g1 := (cat hB k1.lt).trans (k1.cell 1)
    have g2 := (cat hB k1.lt).trans (k1.cell 2)
    have g3 := (cat hB k1.lt).trans (k1.cell 3)
    have g4 := (cat hB k1.lt).trans (k1.cell 4)
    have hK3 := hK (rwv b.kind (.slice z1 z2 z3) b.ty.base b.idx (.slice v1 v2 v3)) w (fun s hs => by cases hs; exact rfl) (Below.refl _ _)
    simp only [over_actBP7] at hK3 ⊢
    clear hK hk
    unfold actBP7 at hK3 ⊢
    refine want_plain rfl ?_
    go_simp
    exact hK3
  · intro o ho uu ok w hB hk K' hK
    cases ho
    have e15 : uu 15 = rwv b.kind (.slice z1 z2 z3) b.ty.base b.idx (.slice v1 v2 v3) := hk 15 (by decide +kernel) rfl
    have hcall := ToR_calls b okT _ _ w (hb1.bel hB) (hb1'.bel hB) (by omega)
    have hK3 := fun (w2 : World) (a1 : Option Addr) (n1 c1 : Nat) (a2 : Option Addr) (n2 c2 : Nat) (h1 : Holds w2 (fun m => w.heap.size ≤ m) b.ty.args (.slice a1 n1 c1)) (h2 : HoldsR w2 (fun m => w.heap.size ≤ m) b.kids (.slice a2 n2 c2)) (hb2 : Below w.heap.size w w2) => hK (rwv b.kind (.slice a1 n1 c1) b.ty.base b.idx (.slice a2 n2 c2)) w2 (fun s hs => by cases hs; exact ⟨a1, n1, c1, a2, n2, c2, rfl, h1.mono (fun _ _ h => .inl h), h2.mono (fun _ _ h => .inl h)⟩) hb2
    simp only [over_actBP7] at hK3 ⊢
    clear hK hk
    unfold actBP7 at hK3 ⊢
    simp only [e15] at hK3 ⊢
    refine want_plain rfl ?_
    go_simp
    refine ⟨trivial, (callsIn_wide.2 hcall).mono ?_⟩
    rintro e w2 ⟨vb, vr, rfl, h1, h2, hbw⟩
    obtain ⟨a1, c1, rfl, _⟩ := h1.shape
    obtain ⟨a2, c2, rfl, _⟩ := h2.shape
    exact hK3 w2 a1 _ c1 a2 _ c2 h1 h2 hbw
  · intro o ho uu w K' hK
    cases ho
    simp only [over_actBP7] at hK ⊢
    unfold actBP7 at hK ⊢
    refine want_plain rfl ?_
    go_simp
    exact hK
  · intro o ho uu ok w m hm hb hv K' hK
    cases ho
    dsimp only at hm hb hv hK
    obtain ⟨a1, n1, c1, a2, n2, c2, e14, h1, h2⟩ := hv
    have fz0 := hb.frozen 0
    have cz0 := hb.cell 0
    have fz1 := hb.frozen 1
    have cz1 := hb.cell 1
    have fz2 := hb.frozen 2
    have cz2 := hb.cell 2
    have fz3 := hb.frozen 3
    have cz3 := hb.cell 3
    have fz4 := hb.frozen 4
    have cz4 := hb.cell 4
    have b9 := (((((hb.set 0 (.int .i64 a.kind)).set 1 (.slice a1 n1 c1)).set 2 (.int .i64 a.ty.base)).set 3 (.int .i64 a.idx)).set 4 (.slice a2 n2 c2))
    have o9 := ((((((Only.refl [m] w).set (B := m) (by simp) 0 (.int .i64 a.kind)).set (B := m) (by simp) 1 (.slice a1 n1 c1)).set (B := m) (by simp) 2 (.int .i64 a.ty.base)).set (B := m) (by simp) 3 (.int .i64 a.idx)).set (B := m) (by simp) 4 (.slice a2 n2 c2))
    rw [e14] at hK
    have hK3 := hK _ b9 o9
    simp only [over_actBP7] at hK3 ⊢
    clear hK b9 o9
    unfold actBP7 at hK3 ⊢
    simp only [hm, e14] at hK3 ⊢
    refine want_plain rfl ?_
    go_simp
    exact hK3
  · intro o ho uu w K' hK
    cases ho
    simp only [over_actBP7] at hK ⊢
    unfold actBP7 at hK ⊢
    refine want_plain rfl ?_
    go_simp
    exact hK
  · intro o ho uu ok w m hm hb hv K' hK
    cases ho
    dsimp only at hm hb hv hK
    obtain ⟨a1, n1, c1, a2, n2, c2, e16, h1, h2⟩ := hv
    have fz0 := hb.frozen 0
    have cz0 := hb.cell 0
    have fz1 := hb.frozen 1
    have cz1 := hb.cell 1
    have fz2 := hb.frozen 2
    have cz2 := hb.cell 2
    have fz3 := hb.frozen 3
    have cz3 := hb.cell 3
    have fz4 := hb.frozen 4
    have cz4 := hb.cell 4
    have b9 := (((((hb.set 0 (.int .i64 b.kind)).set 1 (.slice a1 n1 c1)).set 2 (.int .i64 b.ty.base)).set 3 (.int .i64 b.idx)).set 4 (.slice a2 n2 c2))
    have o9 := ((((((Only.refl [m] w).set (B := m) (by simp) 0 (.int .i64 b.kind)).set (B := m) (by simp) 1 (.slice a1 n1 c1)).set (B := m) (by simp) 2 (.int .i64 b.ty.base)).set (B := m) (by simp) 3 (.int .i64 b.idx)).set (B := m) (by simp) 4 (.slice a2 n2 c2))
    rw [e16] at hK
    have hK3 := hK _ b9 o9
    simp only [over_actBP7] at hK3 ⊢
    clear hK b9 o9
    unfold actBP7 at hK3 ⊢
    simp only [hm, e16] at hK3 ⊢
    refine want_plain rfl ?_
    go_simp
    exact hK3
  · intro uu w' hB hv hbx
    have e13 : uu 13 = rwv a.kind (.slice x1 x2 x3) a.ty.base a.idx (.slice y1 y2 y3) := hv 13 (by decide +kernel) (by decide +kernel)
    have e15 : uu 15 = rwv b.kind (.slice z1 z2 z3) b.ty.base b.idx (.slice v1 v2 v3) := hv 15 (by decide +kernel) (by decide +kernel)
    obtain ⟨a1_14, n1_14, c1_14, a2_14, n2_14, c2_14, e14, h14_1, h14_2⟩ := hv 14 (by decide +kernel) (by decide +kernel)
    obtain ⟨a1_16, n1_16, c1_16, a2_16, n2_16, c2_16, e16, h16_1, h16_2⟩ := hv 16 (by decide +kernel) (by decide +kernel)
    obtain ⟨m0, em0, gm0, bm0⟩ := hbx _ List.mem_cons_self
    simp only [e14] at bm0
    obtain ⟨m1, em1, gm1, bm1⟩ := hbx _ (by apply List.mem_cons_of_mem; exact List.mem_cons_self)
    simp only [e16] at bm1
    rw [over_actBP7]
    refine hKs _ _ ?_
    unfold actBP7
    simp only [e13, e15, e14, e16, em0, em1]
    generalize w' = w4 at *
    have kx : Blk w4 m0 35 #[.int .i64 a.kind, .slice a1_14 n1_14 c1_14, .int .i64 a.ty.base, .int .i64 a.idx, .slice a2_14 n2_14 c2_14] := bm0
    have ky : Blk w4 m1 35 #[.int .i64 b.kind, .slice a1_16 n1_16 c1_16, .int .i64 b.ty.base, .int .i64 b.idx, .slice a2_16 n2_16 c2_16] := bm1
    have hxa := h14_1.t
    have hxr := h14_2.t
    have hya := h16_1.t
    have hyr := h16_2.t
    have hBq : Below w1.heap.size w1 w4 := hB
    have k2 := k0.below hBq k0.lt
    have k3 := k1.below hBq k1.lt
    have ha4 := ha1.bel hBq
    have ha4' := ha1'.bel hBq
    have hb4 := hb1.bel hBq
    have hb4' := hb1'.bel hBq
    have bl4 : Below N w w4 := bl1.trans (hBq.mono hz1)
    have hz4 : N ≤ w4.heap.size := by have := bl4.size; omega
    clear hB hBq bm0 bm1 h14_1 h14_2 h16_1 h16_2 ha1 ha1' hb1 hb1' k0 k1 e13 e14 e15 e16 em0 em1 bl1 hv hbx
    go_upto_region 4 with fail
    rename_i K Q' hKs
    refine (wpIn_wide (n := 9)).1 ?_
    show Code.wpIn Fence.wide 9 Try.prog (Code.region 4 _ true) _ (actQ7 N m0 m1 (rwv a.kind (.slice x1 x2 x3) a.ty.base a.idx (.slice y1 y2 y3)) (rwv b.kind (.slice z1 z2 z3) b.ty.base b.idx (.slice v1 v2 v3)) (.agg #[.int .i64 a.kind, .slice x1 x2 x3, .int .i64 a.ty.base, .int .i64 a.idx, .slice y1 y2 y3]) (.agg #[.int .i64 b.kind, .slice z1 z2 z3, .int .i64 b.ty.base, .int .i64 b.idx, .slice v1 v2 v3]) (.slice (some ⟨N + 2, 0, none⟩) 2 2) (.bool true) (.bool false) (undef) (rwv a.kind (.slice x1 x2 x3) a.ty.base a.idx (.slice y1 y2 y3)) (rwv a.kind (.slice a1_14 n1_14 c1_14) a.ty.base a.idx (.slice a2_14 n2_14 c2_14)) (rwv b.kind (.slice z1 z2 z3) b.ty.base b.idx (.slice v1 v2 v3)) (rwv b.kind (.slice a1_16 n1_16 c1_16) b.ty.base b.idx (.slice a2_16 n2_16 c2_16)) (fun | 4 => .bool false | 17 => undef | 18 => undef | 19 => undef | 20 => undef | 21 => undef | 22 => undef | 23 => undef | 24 => undef | 25 => undef | 26 => undef | 27 => undef | 28 => undef | 29 => undef | 30 => undef | 31 => undef | 32 => undef | 33 => undef | 34 => undef | 35 => undef | 36 => undef | 37 => undef | 38 => undef | 39 => undef | 40 => undef | 41 => undef | 42 => undef | 43 => undef | 44 => undef | 45 => undef | 46 => undef | 47 => undef | 48 => undef | 49 => undef | 50 => undef | 51 => undef | 52 => undef | 53 => undef | 54 => undef | 55 => undef | 56 => undef | 57 => undef | 58 => undef | _ => undef)) w4
    refine region_spine [(0, 0), (1, 0), (2, 0), (3, 0), (4, 0), (5, 0), (6, 0), (7, 0), (8, 0), (9, 0), (10, 0), (11, 0), (12, 0), (13, 0), (14, 0), (15, 0), (16, 0), (17, 0), (18, 0), (19, 0), (20, 0), (21, 0), (22, 0), (23, 0), (24, 0), (25, 0), (26, 0), (27, 0), (28, 0), (29, 0), (30, 0), (31, 0), (32, 0), (33, 0), (34, 0), (35, 0), (36, 0), (37, 0), (38, 0), (39, 0), (40, 0), (41, 0), (42, 0)] [] (fun s => Nat.beq s 4 || (Nat.ble 17 s && Nat.ble s 58)) (fun _ => VQ7 a b x1 y1 z1 v1 a1_14 a2_14 a1_16 a2_16 x2 x3 y2 y3 z2 z3 v2 v3 n1_14 c1_14 n2_14 c2_14 n1_16 c1_16 n2_16 c2_16) (fun _ w => Below (w4).heap.size w4 w) (by kernel_rfl) (by kernel_rfl) (by kernel_rfl) (by kernel_rfl) (fun _ _ _ _ _ h hb => h.mono hb) (fun _ _ _ h hb => h.trans (hb.mono h.size)) ((Below.refl _ _).drew) ⟨?_, ?_, ?_, ?_, ?_, ?_, ?_, ?_, ?_, ?_, ?_, ?_, ?_, ?_, ?_, ?_, ?_, ?_, ?_, ?_, ?_, ?_, ?_, ?_, ?_, ?_, ?_, ?_, ?_, ?_, ?_, ?_, ?_, ?_, ?_, ?_, ?_, ?_, ?_, ?_, ?_, ?_, ?_, trivial⟩ trivial ?_
    · intro o ho p hp _ z w hB hk K' hK
      cases ho
      have hcall := known_calls w
      have hK3 := fun (w2 : World) (hb2 : Below w.heap.size w w2) => hK (.bool true) w2 (fun s hs => by cases hs; exact rfl) hb2
      simp only [over_actQ7] at hK3 ⊢
      clear hK hk
      unfold actQ7 at hK3 ⊢
      refine want_plain rfl ?_
      go_simp
      refine ⟨trivial, (callsIn_wide.2 hcall).mono ?_⟩
      rintro e w2 ⟨rfl, hb2⟩
      exact hK3 w2 hb2
    · intro o ho p hp _ z w hB hk K' hK
      cases ho
      have e17 : z 17 = .bool true := hk 17 (by decide +kernel) rfl
      have hK3 := hK (.bool true) w (fun s hs => by cases hs; exact rfl) (Below.refl _ _)
      simp only [over_actQ7] at hK3 ⊢
      clear hK hk
      unfold actQ7 at hK3 ⊢
      simp only [e17] at hK3 ⊢
      refine want_plain rfl ?_
      go_simp
      exact hK3
    · intro o ho p hp _ z w hB hk K' hK
      cases ho
      have e18 : z 18 = .bool true := hk 18 (by decide +kernel) rfl
      have u0 := (cat hB kx.lt).trans (kx.cell 0)
      have u1 := (cat hB kx.lt).trans (kx.cell 1)
      have u2 := (cat hB kx.lt).trans (kx.cell 2)
      have u3 := (cat hB kx.lt).trans (kx.cell 3)
      have u4 := (cat hB kx.lt).trans (kx.cell 4)
      have hK3 := hK (rwv a.kind (.slice a1_14 n1_14 c1_14) a.ty.base a.idx (.slice a2_14 n2_14 c2_14)) w (fun s hs => by cases hs; exact rfl) (Below.refl _ _)
      simp only [over_actQ7] at hK3 ⊢
      clear hK hk
      unfold actQ7 at hK3 ⊢
      simp only [e18] at hK3 ⊢
      refine want_yes rfl (by rfl) ?_
      go_simp
      exact hK3
    · intro o ho p hp _ z w hB hk K' hK
      cases ho
      have e19 : z 19 = rwv a.kind (.slice a1_14 n1_14 c1_14) a.ty.base a.idx (.slice a2_14 n2_14 c2_14) := hk 19 (by decide +kernel) rfl
      have e18 : z 18 = .bool true := hk 18 (by decide +kernel) rfl
      have hcall := RightR_calls a okT _ _ w (hxa.bel hB) (hxr.bel hB) (by omega)
      have hK3 := fun (w2 : World) (hb2 : Below w.heap.size w w2) => hK (.bool a.right) w2 (fun s hs => by cases hs; exact rfl) hb2
      simp only [over_actQ7] at hK3 ⊢
      clear hK hk
      unfold actQ7 at hK3 ⊢
      simp only [e19, e18] at hK3 ⊢
      refine want_yes rfl (by rfl) ?_
      go_simp
      refine ⟨trivial, (callsIn_wide.2 hcall).mono ?_⟩
      rintro e w2 ⟨rfl, hb2⟩
      exact hK3 w2 hb2
    · intro o ho p hp _ z w hB hk K' hK
      cases ho
      have e18 : z 18 = .bool true := hk 18 (by decide +kernel) rfl
      have u0 := (cat hB k2.lt).trans (k2.cell 0)
      have u1 := (cat hB k2.lt).trans (k2.cell 1)
      have u2 := (cat hB k2.lt).trans (k2.cell 2)
      have u3 := (cat hB k2.lt).trans (k2.cell 3)
      have u4 := (cat hB k2.lt).trans (k2.cell 4)
      have hK3 := hK (rwv a.kind (.slice x1 x2 x3) a.ty.base a.idx (.slice y1 y2 y3)) w (fun s hs => by cases hs; exact rfl) (Below.refl _ _)
      simp only [over_actQ7] at hK3 ⊢
      clear hK hk
      unfold actQ7 at hK3 ⊢
      simp only [e18] at hK3 ⊢
      refine want_yes rfl (by rfl) ?_
      go_simp
      exact hK3
    · intro o ho p hp _ z w hB hk K' hK
      cases ho
      have e21 : z 21 = rwv a.kind (.slice x1 x2 x3) a.ty.base a.idx (.slice y1 y2 y3) := hk 21 (by decide +kernel) rfl
      have e18 : z 18 = .bool true := hk 18 (by decide +kernel) rfl
      have hcall := refRightR_calls a okT _ _ w (ha4.bel hB) (ha4'.bel hB) (by omega)
      have hK3 := fun (w2 : World) (hb2 : Below w.heap.size w w2) => hK (.bool a.right) w2 (fun s hs => by cases hs; exact rfl) hb2
      simp only [over_actQ7] at hK3 ⊢
      clear hK hk
      unfold actQ7 at hK3 ⊢
      simp only [e21, e18] at hK3 ⊢
      refine want_yes rfl (by rfl) ?_
      go_simp
      refine ⟨trivial, (callsIn_wide.2 hcall).mono ?_⟩
      rintro e w2 ⟨rfl, hb2⟩
      exact hK3 w2 hb2
    · intro o ho p hp _ z w hB hk K' hK
      cases ho
      have e20 : z 20 = .bool a.right := hk 20 (by decide +kernel) rfl
      have e22 : z 22 = .bool a.right := hk 22 (by decide +kernel) rfl
      have e18 : z 18 = .bool true := hk 18 (by decide +kernel) rfl
      have hK3 := hK (.bool true) w (fun s hs => by cases hs; exact rfl) (Below.refl _ _)
      simp only [over_actQ7] at hK3 ⊢
      clear hK hk
      unfold actQ7 at hK3 ⊢
      simp only [e20, e22, e18] at hK3 ⊢
      refine want_yes rfl (by rfl) ?_
      go_simp
      exact hK3
    · intro o ho p hp _ z w hB hk K' hK
      cases ho
      have e18 : z 18 = .bool true := hk 18 (by decide +kernel) rfl
      have e23 : z 23 = .bool true := hk 23 (by decide +kernel) rfl
      have hK3 := hK (.bool true) w (fun s hs => by cases hs; exact rfl) (Below.refl _ _)
      simp only [over_actQ7] at hK3 ⊢
      clear hK hk
      unfold actQ7 at hK3 ⊢
      simp only [e18, e23] at hK3 ⊢
      refine want_plain rfl ?_
      go_simp
      exact hK3
    · intro o ho p hp _ z w hB hk K' hK
      cases ho
      have e24 : z 24 = .bool true := hk 24 (by decide +kernel) rfl
      have hK3 := hK (.bool true) w (fun s hs => by cases hs; exact rfl) (Below.refl _ _)
      simp only [over_actQ7] at hK3 ⊢
      clear hK hk
      unfold actQ7 at hK3 ⊢
      simp only [e24] at hK3 ⊢
      refine want_plain rfl ?_
      go_simp
      exact hK3
    · intro o ho p hp _ z w hB hk K' hK
      cases ho
      have e25 : z 25 = .bool true := hk 25 (by decide +kernel) rfl
      have u0 := (cat hB kx.lt).trans (kx.cell 0)
      have u1 := (cat hB kx.lt).trans (kx.cell 1)
      have u2 := (cat hB kx.lt).trans (kx.cell 2)
      have u3 := (cat hB kx.lt).trans (kx.cell 3)
      have u4 := (cat hB kx.lt).trans (kx.cell 4)
      have hK3 := hK (rwv a.kind (.slice a1_14 n1_14 c1_14) a.ty.base a.idx (.slice a2_14 n2_14 c2_14)) w (fun s hs => by cases hs; exact rfl) (Below.refl _ _)
      simp only [over_actQ7] at hK3 ⊢
      clear hK hk
      unfold actQ7 at hK3 ⊢
      simp only [e25] at hK3 ⊢
      refine want_yes rfl (by rfl) ?_
      go_simp
      exact hK3
    · intro o ho p hp _ z w hB hk K' hK
      cases ho
      have e26 : z 26 = rwv a.kind (.slice a1_14 n1_14 c1_14) a.ty.base a.idx (.slice a2_14 n2_14 c2_14) := hk 26 (by decide +kernel) rfl
      have e25 : z 25 = .bool true := hk 25 (by decide +kernel) rfl
      have hcall := SizeR_calls a okT _ _ w (hxa.bel hB) (hxr.bel hB) (by omega)
      have hK3 := fun (w2 : World) (hb2 : Below w.heap.size w w2) => hK (.int .i64 (a.size : Int)) w2 (fun s hs => by cases hs; exact rfl) hb2
      simp only [over_actQ7] at hK3 ⊢
      clear hK hk
      unfold actQ7 at hK3 ⊢
      simp only [e26, e25] at hK3 ⊢
      refine want_yes rfl (by rfl) ?_
      go_simp
      refine ⟨trivial, (callsIn_wide.2 hcall).mono ?_⟩
      rintro e w2 ⟨rfl, hb2⟩
      exact hK3 w2 hb2
    · intro o ho p hp _ z w hB hk K' hK
      cases ho
      have e25 : z 25 = .bool true := hk 25 (by decide +kernel) rfl
      have u0 := (cat hB k2.lt).trans (k2.cell 0)
      have u1 := (cat hB k2.lt).trans (k2.cell 1)
      have u2 := (cat hB k2.lt).trans (k2.cell 2)
      have u3 := (cat hB k2.lt).trans (k2.cell 3)
      have u4 := (cat hB k2.lt).trans (k2.cell 4)
      have hK3 := hK (rwv a.kind (.slice x1 x2 x3) a.ty.base a.idx (.slice y1 y2 y3)) w (fun s hs => by cases hs; exact rfl) (Below.refl _ _)
      simp only [over_actQ7] at hK3 ⊢
      clear hK hk
      unfold actQ7 at hK3 ⊢
      simp only [e25] at hK3 ⊢
      refine want_yes rfl (by rfl) ?_
      go_simp
      exact hK3
    · intro o ho p hp _ z w hB hk K' hK
      cases ho
      have e28 : z 28 = rwv a.kind (.slice x1 x2 x3) a.ty.base a.idx (.slice y1 y2 y3) := hk 28 (by decide +kernel) rfl
      have e25 : z 25 = .bool true := hk 25 (by decide +kernel) rfl
      have hcall := refSizeR_calls a okT _ _ w (ha4.bel hB) (ha4'.bel hB) (by omega)
      have hK3 := fun (w2 : World) (hb2 : Below w.heap.size w w2) => hK (.int .i64 (a.size : Int)) w2 (fun s hs => by cases hs; exact rfl) hb2
      simp only [over_actQ7] at hK3 ⊢
      clear hK hk
      unfold actQ7 at hK3 ⊢
      simp only [e28, e25] at hK3 ⊢
      refine want_yes rfl (by rfl) ?_
      go_simp
      refine ⟨trivial, (callsIn_wide.2 hcall).mono ?_⟩
      rintro e w2 ⟨rfl, hb2⟩
      exact hK3 w2 hb2
    · intro o ho p hp _ z w hB hk K' hK
      cases ho
      have e27 : z 27 = .int .i64 (a.size : Int) := hk 27 (by decide +kernel) rfl
      have e29 : z 29 = .int .i64 (a.size : Int) := hk 29 (by decide +kernel) rfl
      have e25 : z 25 = .bool true := hk 25 (by decide +kernel) rfl
      have hK3 := hK (.bool true) w (fun s hs => by cases hs; exact rfl) (Below.refl _ _)
      simp only [over_actQ7] at hK3 ⊢
      clear hK hk
      unfold actQ7 at hK3 ⊢
      simp only [e27, e29, e25] at hK3 ⊢
      refine want_yes rfl (by rfl) ?_
      go_simp
      exact hK3
    · intro o ho p hp _ z w hB hk K' hK
      cases ho
      have e25 : z 25 = .bool true := hk 25 (by decide +kernel) rfl
      have e30 : z 30 = .bool true := hk 30 (by decide +kernel) rfl
      have hK3 := hK (.bool true) w (fun s hs => by cases hs; exact rfl) (Below.refl _ _)
      simp only [over_actQ7] at hK3 ⊢
      clear hK hk
      unfold actQ7 at hK3 ⊢
      simp only [e25, e30] at hK3 ⊢
      refine want_plain rfl ?_
      go_simp
      exact hK3
    · intro o ho p hp _ z w hB hk K' hK
      cases ho
      have e31 : z 31 = .bool true := hk 31 (by decide +kernel) rfl
      have hK3 := hK (.bool true) w (fun s hs => by cases hs; exact rfl) (Below.refl _ _)
      simp only [over_actQ7] at hK3 ⊢
      clear hK hk
      unfold actQ7 at hK3 ⊢
      simp only [e31] at hK3 ⊢
      refine want_plain rfl ?_
      go_simp
      exact hK3
    · intro o ho p hp _ z w hB hk K' hK
      cases ho
      have e32 : z 32 = .bool true := hk 32 (by decide +kernel) rfl
      have u0 := (cat hB kx.lt).trans (kx.cell 0)
      have u1 := (cat hB kx.lt).trans (kx.cell 1)
      have u2 := (cat hB kx.lt).trans (kx.cell 2)
      have u3 := (cat hB kx.lt).trans (kx.cell 3)
      have u4 := (cat hB kx.lt).trans (kx.cell 4)
      have hK3 := hK (rwv a.kind (.slice a1_14 n1_14 c1_14) a.ty.base a.idx (.slice a2_14 n2_14 c2_14)) w (fun s hs => by cases hs; exact rfl) (Below.refl _ _)
      simp only [over_actQ7] at hK3 ⊢
      clear hK hk
      unfold actQ7 at hK3 ⊢
      simp only [e32] at hK3 ⊢
      refine want_yes rfl (by rfl) ?_
      go_simp
      exact hK3
    · intro o ho p hp _ z w hB hk K' hK
      cases ho
      have e33 : z 33 = rwv a.kind (.slice a1_14 n1_14 c1_14) a.ty.base a.idx (.slice a2_14 n2_14 c2_14) := hk 33 (by decide +kernel) rfl
      have e32 : z 32 = .bool true := hk 32 (by decide +kernel) rfl
      have hcall := LooseR_calls a okT _ _ w (hxa.bel hB) (hxr.bel hB) (by omega) hrg
      have hK3 := fun (w2 : World) (hb2 : Below w.heap.size w w2) => hK (.int .i64 (a.loose 0 : Int)) w2 (fun s hs => by cases hs; exact rfl) hb2
      simp only [over_actQ7] at hK3 ⊢
      clear hK hk
      unfold actQ7 at hK3 ⊢
      simp only [e33, e32] at hK3 ⊢
      refine want_yes rfl (by rfl) ?_
      go_simp
      refine ⟨trivial, (callsIn_wide.2 hcall).mono ?_⟩
      rintro e w2 ⟨rfl, hb2⟩
      exact hK3 w2 hb2
    · intro o ho p hp _ z w hB hk K' hK
      cases ho
      have e32 : z 32 = .bool true := hk 32 (by decide +kernel) rfl
      have u0 := (cat hB k2.lt).trans (k2.cell 0)
      have u1 := (cat hB k2.lt).trans (k2.cell 1)
      have u2 := (cat hB k2.lt).trans (k2.cell 2)
      have u3 := (cat hB k2.lt).trans (k2.cell 3)
      have u4 := (cat hB k2.lt).trans (k2.cell 4)
      have hK3 := hK (rwv a.kind (.slice x1 x2 x3) a.ty.base a.idx (.slice y1 y2 y3)) w (fun s hs => by cases hs; exact rfl) (Below.refl _ _)
      simp only [over_actQ7] at hK3 ⊢
      clear hK hk
      unfold actQ7 at hK3 ⊢
      simp only [e32] at hK3 ⊢
      refine want_yes rfl (by rfl) ?_
      go_simp
      exact hK3
    · intro o ho p hp _ z w hB hk K' hK
      cases ho
      have e35 : z 35 = rwv a.kind (.slice x1 x2 x3) a.ty.base a.idx (.slice y1 y2 y3) := hk 35 (by decide +kernel) rfl
      have e32 : z 32 = .bool true := hk 32 (by decide +kernel) rfl
      have hcall := refLooseR_calls a 0 okT _ _ w (ha4.bel hB) (ha4'.bel hB) (by omega) (by omega) hrg
      have hK3 := fun (w2 : World) (hb2 : Below w.heap.size w w2) => hK (.int .i64 (a.loose 0 : Int)) w2 (fun s hs => by cases hs; exact rfl) hb2
      simp only [over_actQ7] at hK3 ⊢
      clear hK hk
      unfold actQ7 at hK3 ⊢
      simp only [e35, e32] at hK3 ⊢
      refine want_yes rfl (by rfl) ?_
      go_simp
      refine ⟨trivial, (callsIn_wide.2 hcall).mono ?_⟩
      rintro e w2 ⟨rfl, hb2⟩
      exact hK3 w2 hb2
    · intro o ho p hp _ z w hB hk K' hK
      cases ho
      have e34 : z 34 = .int .i64 (a.loose 0 : Int) := hk 34 (by decide +kernel) rfl
      have e36 : z 36 = .int .i64 (a.loose 0 : Int) := hk 36 (by decide +kernel) rfl
      have e32 : z 32 = .bool true := hk 32 (by decide +kernel) rfl
      have hK3 := hK (.bool true) w (fun s hs => by cases hs; exact rfl) (Below.refl _ _)
      simp only [over_actQ7] at hK3 ⊢
      clear hK hk
      unfold actQ7 at hK3 ⊢
      simp only [e34, e36, e32] at hK3 ⊢
      refine want_yes rfl (by rfl) ?_
      go_simp
      exact hK3
    · intro o ho p hp _ z w hB hk K' hK
      cases ho
      have e32 : z 32 = .bool true := hk 32 (by decide +kernel) rfl
      have e37 : z 37 = .bool true := hk 37 (by decide +kernel) rfl
      have hK3 := hK (.bool true) w (fun s hs => by cases hs; exact rfl) (Below.refl _ _)
      simp only [over_actQ7] at hK3 ⊢
      clear hK hk
      unfold actQ7 at hK3 ⊢
      simp only [e32, e37] at hK3 ⊢
      refine want_plain rfl ?_
      go_simp
      exact hK3
    · intro o ho p hp _ z w hB hk K' hK
      cases ho
      have e38 : z 38 = .bool true := hk 38 (by decide +kernel) rfl
      have hK3 := hK (.bool true) w (fun s hs => by cases hs; exact rfl) (Below.refl _ _)
      simp only [over_actQ7] at hK3 ⊢
      clear hK hk
      unfold actQ7 at hK3 ⊢
      simp only [e38] at hK3 ⊢
      refine want_plain rfl ?_
      go_simp
      exact hK3
    · intro o ho p hp _ z w hB hk K' hK
      cases ho
      have e39 : z 39 = .bool true := hk 39 (by decide +kernel) rfl
      have u0 := (cat hB kx.lt).trans (kx.cell 0)
      have u1 := (cat hB kx.lt).trans (kx.cell 1)
      have u2 := (cat hB kx.lt).trans (kx.cell 2)
      have u3 := (cat hB kx.lt).trans (kx.cell 3)
      have u4 := (cat hB kx.lt).trans (kx.cell 4)
      have hK3 := hK (rwv a.kind (.slice a1_14 n1_14 c1_14) a.ty.base a.idx (.slice a2_14 n2_14 c2_14)) w (fun s hs => by cases hs; exact rfl) (Below.refl _ _)
      simp only [over_actQ7] at hK3 ⊢
      clear hK hk
      unfold actQ7 at hK3 ⊢
      simp only [e39] at hK3 ⊢
      refine want_yes rfl (by rfl) ?_
      go_simp
      exact hK3
    · intro o ho p hp _ z w hB hk K' hK
      cases ho
      have e39 : z 39 = .bool true := hk 39 (by decide +kernel) rfl
      have u0 := (cat hB ky.lt).trans (ky.cell 0)
      have u1 := (cat hB ky.lt).trans (ky.cell 1)
      have u2 := (cat hB ky.lt).trans (ky.cell 2)
      have u3 := (cat hB ky.lt).trans (ky.cell 3)
      have u4 := (cat hB ky.lt).trans (ky.cell 4)
      have hK3 := hK (rwv b.kind (.slice a1_16 n1_16 c1_16) b.ty.base b.idx (.slice a2_16 n2_16 c2_16)) w (fun s hs => by cases hs; exact rfl) (Below.refl _ _)
      simp only [over_actQ7] at hK3 ⊢
      clear hK hk
      unfold actQ7 at hK3 ⊢
      simp only [e39] at hK3 ⊢
      refine want_yes rfl (by rfl) ?_
      go_simp
      exact hK3
    · intro o ho p hp _ z w hB hk K' hK
      cases ho
      have e40 : z 40 = rwv a.kind (.slice a1_14 n1_14 c1_14) a.ty.base a.idx (.slice a2_14 n2_14 c2_14) := hk 40 (by decide +kernel) rfl
      have e41 : z 41 = rwv b.kind (.slice a1_16 n1_16 c1_16) b.ty.base b.idx (.slice a2_16 n2_16 c2_16) := hk 41 (by decide +kernel) rfl
      have e39 : z 39 = .bool true := hk 39 (by decide +kernel) rfl
      have hcall := EqualR_calls a (by omega) b okT _ _ _ _ w (hxa.bel hB) (hxr.bel hB) (hya.bel hB) (hyr.bel hB)
      have hK3 := fun (w2 : World) (hb2 : Below w.heap.size w w2) => hK (.bool (a.same b)) w2 (fun s hs => by cases hs; exact rfl) hb2
      simp only [over_actQ7] at hK3 ⊢
      clear hK hk
      unfold actQ7 at hK3 ⊢
      simp only [e40, e41, e39] at hK3 ⊢
      refine want_yes rfl (by rfl) ?_
      go_simp
      refine ⟨trivial, (callsIn_wide.2 hcall).mono ?_⟩
      rintro e w2 ⟨rfl, hb2⟩
      exact hK3 w2 hb2
    · intro o ho p hp _ z w hB hk K' hK
      cases ho
      have e39 : z 39 = .bool true := hk 39 (by decide +kernel) rfl
      have u0 := (cat hB k2.lt).trans (k2.cell 0)
      have u1 := (cat hB k2.lt).trans (k2.cell 1)
      have u2 := (cat hB k2.lt).trans (k2.cell 2)
      have u3 := (cat hB k2.lt).trans (k2.cell 3)
      have u4 := (cat hB k2.lt).trans (k2.cell 4)
      have hK3 := hK (rwv a.kind (.slice x1 x2 x3) a.ty.base a.idx (.slice y1 y2 y3)) w (fun s hs => by cases hs; exact rfl) (Below.refl _ _)
      simp only [over_actQ7] at hK3 ⊢
      clear hK hk
      unfold actQ7 at hK3 ⊢
      simp only [e39] at hK3 ⊢
      refine want_yes rfl (by rfl) ?_
      go_simp
      exact hK3
    · intro o ho p hp _ z w hB hk K' hK
      cases ho
      have e39 : z 39 = .bool true := hk 39 (by decide +kernel) rfl
      have u0 := (cat hB k3.lt).trans (k3.cell 0)
      have u1 := (cat hB k3.lt).trans (k3.cell 1)
      have u2 := (cat hB k3.lt).trans (k3.cell 2)
      have u3 := (cat hB k3.lt).trans (k3.cell 3)
      have u4 := (cat hB k3.lt).trans (k3.cell 4)
      have hK3 := hK (rwv b.kind (.slice z1 z2 z3) b.ty.base b.idx (.slice v1 v2 v3)) w (fun s hs => by cases hs; exact rfl) (Below.refl _ _)
      simp only [over_actQ7] at hK3 ⊢
      clear hK hk
      unfold actQ7 at hK3 ⊢
      simp only [e39] at hK3 ⊢
      refine want_yes rfl (by rfl) ?_
      go_simp
      exact hK3
    · intro o ho p hp _ z w hB hk K' hK
      cases ho
      have e43 : z 43 = rwv a.kind (.slice x1 x2 x3) a.ty.base a.idx (.slice y1 y2 y3) := hk 43 (by decide +kernel) rfl
      have e44 : z 44 = rwv b.kind (.slice z1 z2 z3) b.ty.base b.idx (.slice v1 v2 v3) := hk 44 (by decide +kernel) rfl
      have e39 : z 39 = .bool true := hk 39 (by decide +kernel) rfl
      have hcall := SameR_calls a b okT okT _ _ _ _ w (ha4.bel hB) (ha4'.bel hB) (hb4.bel hB) (hb4'.bel hB) (by omega)
      have hK3 := fun (w2 : World) (hb2 : Below w.heap.size w w2) => hK (.bool (a.same b)) w2 (fun s hs => by cases hs; exact rfl) hb2
      simp only [over_actQ7] at hK3 ⊢
      clear hK hk
      unfold actQ7 at hK3 ⊢
      simp only [e43, e44, e39] at hK3 ⊢
      refine want_yes rfl (by rfl) ?_
      go_simp
      refine ⟨trivial, (callsIn_wide.2 hcall).mono ?_⟩
      rintro e w2 ⟨rfl, hb2⟩
      exact hK3 w2 hb2
    · intro o ho p hp _ z w hB hk K' hK
      cases ho
      have e42 : z 42 = .bool (a.same b) := hk 42 (by decide +kernel) rfl
      have e45 : z 45 = .bool (a.same b) := hk 45 (by decide +kernel) rfl
      have e39 : z 39 = .bool true := hk 39 (by decide +kernel) rfl
      have hK3 := hK (.bool true) w (fun s hs => by cases hs; exact rfl) (Below.refl _ _)
      simp only [over_actQ7] at hK3 ⊢
      clear hK hk
      unfold actQ7 at hK3 ⊢
      simp only [e42, e45, e39] at hK3 ⊢
      refine want_yes rfl (by rfl) ?_
      go_simp
      exact hK3
    · intro o ho p hp _ z w hB hk K' hK
      cases ho
      have e39 : z 39 = .bool true := hk 39 (by decide +kernel) rfl
      have e46 : z 46 = .bool true := hk 46 (by decide +kernel) rfl
      have hK3 := hK (.bool true) w (fun s hs => by cases hs; exact rfl) (Below.refl _ _)
      simp only [over_actQ7] at hK3 ⊢
      clear hK hk
      unfold actQ7 at hK3 ⊢
      simp only [e39, e46] at hK3 ⊢
      refine want_plain rfl ?_
      go_simp
      exact hK3
    · intro o ho p hp _ z w hB hk K' hK
      cases ho
      have e47 : z 47 = .bool true := hk 47 (by decide +kernel) rfl
      have hK3 := hK (.bool true) w (fun s hs => by cases hs; exact rfl) (Below.refl _ _)
      simp only [over_actQ7] at hK3 ⊢
      clear hK hk
      unfold actQ7 at hK3 ⊢
      simp only [e47] at hK3 ⊢
      refine want_plain rfl ?_
      go_simp
      exact hK3
    · intro o ho p hp _ z w hB hk K' hK
      cases ho
      have e48 : z 48 = .bool true := hk 48 (by decide +kernel) rfl
      have u0 := (cat hB kx.lt).trans (kx.cell 0)
      have u1 := (cat hB kx.lt).trans (kx.cell 1)
      have u2 := (cat hB kx.lt).trans (kx.cell 2)
      have u3 := (cat hB kx.lt).trans (kx.cell 3)
      have u4 := (cat hB kx.lt).trans (kx.cell 4)
      have hK3 := hK (rwv a.kind (.slice a1_14 n1_14 c1_14) a.ty.base a.idx (.slice a2_14 n2_14 c2_14)) w (fun s hs => by cases hs; exact rfl) (Below.refl _ _)
      simp only [over_actQ7] at hK3 ⊢
      clear hK hk
      unfold actQ7 at hK3 ⊢
      simp only [e48] at hK3 ⊢
      refine want_yes rfl (by rfl) ?_
      go_simp
      exact hK3
    · intro o ho p hp _ z w hB hk K' hK
      cases ho
      have e48 : z 48 = .bool true := hk 48 (by decide +kernel) rfl
      have u0 := (cat hB kx.lt).trans (kx.cell 0)
      have u1 := (cat hB kx.lt).trans (kx.cell 1)
      have u2 := (cat hB kx.lt).trans (kx.cell 2)
      have u3 := (cat hB kx.lt).trans (kx.cell 3)
      have u4 := (cat hB kx.lt).trans (kx.cell 4)
      have hK3 := hK (rwv a.kind (.slice a1_14 n1_14 c1_14) a.ty.base a.idx (.slice a2_14 n2_14 c2_14)) w (fun s hs => by cases hs; exact rfl) (Below.refl _ _)
      simp only [over_actQ7] at hK3 ⊢
      clear hK hk
      unfold actQ7 at hK3 ⊢
      simp only [e48] at hK3 ⊢
      refine want_yes rfl (by rfl) ?_
      go_simp
      exact hK3
    · intro o ho p hp _ z w hB hk K' hK
      cases ho
      have e49 : z 49 = rwv a.kind (.slice a1_14 n1_14 c1_14) a.ty.base a.idx (.slice a2_14 n2_14 c2_14) := hk 49 (by decide +kernel) rfl
      have e50 : z 50 = rwv a.kind (.slice a1_14 n1_14 c1_14) a.ty.base a.idx (.slice a2_14 n2_14 c2_14) := hk 50 (by decide +kernel) rfl
      have e48 : z 48 = .bool true := hk 48 (by decide +kernel) rfl
      have hs51 := EqualR_calls a (by omega) a okT _ _ _ _ w (hxa.bel hB) (hxr.bel hB) (hxa.bel hB) (hxr.bel hB)
      rw [a.same_self] at hs51
      have hcall := hs51
      have hK3 := fun (w2 : World) (hb2 : Below w.heap.size w w2) => hK (.bool true) w2 (fun s hs => by cases hs; exact rfl) hb2
      simp only [over_actQ7] at hK3 ⊢
      clear hK hk
      unfold actQ7 at hK3 ⊢
      simp only [e49, e50, e48] at hK3 ⊢
      refine want_yes rfl (by rfl) ?_
      go_simp
      refine ⟨trivial, (callsIn_wide.2 hcall).mono ?_⟩
      rintro e w2 ⟨rfl, hb2⟩
      exact hK3 w2 hb2
    · intro o ho p hp _ z w hB hk K' hK
      cases ho
      have e48 : z 48 = .bool true := hk 48 (by decide +kernel) rfl
      have e51 : z 51 = .bool true := hk 51 (by decide +kernel) rfl
      have hK3 := hK (.bool true) w (fun s hs => by cases hs; exact rfl) (Below.refl _ _)
      simp only [over_actQ7] at hK3 ⊢
      clear hK hk
      unfold actQ7 at hK3 ⊢
      simp only [e48, e51] at hK3 ⊢
      refine want_plain rfl ?_
      go_simp
      exact hK3
    · intro o ho p hp _ z w hB hk K' hK
      cases ho
      have e52 : z 52 = .bool true := hk 52 (by decide +kernel) rfl
      have hK3 := hK (.bool true) w (fun s hs => by cases hs; exact rfl) (Below.refl _ _)
      simp only [over_actQ7] at hK3 ⊢
      clear hK hk
      unfold actQ7 at hK3 ⊢
      simp only [e52] at hK3 ⊢
      refine want_plain rfl ?_
      go_simp
      exact hK3
    · intro o ho p hp _ z w hB hk K' hK
      cases ho
      have e53 : z 53 = .bool true := hk 53 (by decide +kernel) rfl
      have u0 := (cat hB kx.lt).trans (kx.cell 0)
      have u1 := (cat hB kx.lt).trans (kx.cell 1)
      have u2 := (cat hB kx.lt).trans (kx.cell 2)
      have u3 := (cat hB kx.lt).trans (kx.cell 3)
      have u4 := (cat hB kx.lt).trans (kx.cell 4)
      have hK3 := hK (rwv a.kind (.slice a1_14 n1_14 c1_14) a.ty.base a.idx (.slice a2_14 n2_14 c2_14)) w (fun s hs => by cases hs; exact rfl) (Below.refl _ _)
      simp only [over_actQ7] at hK3 ⊢
      clear hK hk
      unfold actQ7 at hK3 ⊢
      simp only [e53] at hK3 ⊢
      refine want_yes rfl (by rfl) ?_
      go_simp
      exact hK3
    · intro o ho p hp _ z w hB hk K' hK
      cases ho
      have e54 : z 54 = rwv a.kind (.slice a1_14 n1_14 c1_14) a.ty.base a.idx (.slice a2_14 n2_14 c2_14) := hk 54 (by decide +kernel) rfl
      have e53 : z 53 = .bool true := hk 53 (by decide +kernel) rfl
      have hcall := OfR_calls a okT _ _ w (hxa.bel hB) (hxr.bel hB) (by omega)
      have hK3 := fun (w2 : World) (g1 : Option Addr) (gn g2 : Nat) (l1 : Option Addr) (ln l2 : Nat) (h1 : Holds w2 okT a.ty.args (.slice g1 gn g2)) (h2 : HoldsR w2 okT a.kids (.slice l1 ln l2)) (hb2 : Below w.heap.size w w2) => hK (rwv a.kind (.slice g1 gn g2) a.ty.base a.idx (.slice l1 ln l2)) w2 (fun s hs => by cases hs; exact ⟨g1, gn, g2, l1, ln, l2, rfl, h1, h2⟩) hb2
      simp only [over_actQ7] at hK3 ⊢
      clear hK hk
      unfold actQ7 at hK3 ⊢
      simp only [e54, e53] at hK3 ⊢
      refine want_yes rfl (by rfl) ?_
      go_simp
      refine ⟨trivial, (callsIn_wide.2 hcall).mono ?_⟩
      rintro e w2 ⟨vb, vr, rfl, h1, h2, hb2⟩
      obtain ⟨g1, g2, rfl, _⟩ := h1.shape
      obtain ⟨l1, l2, rfl, _⟩ := h2.shape
      exact hK3 w2 g1 _ g2 l1 _ l2 h1.t h2.t hb2
    · intro o ho p hp _ z w hB hk K' hK
      cases ho
      have e53 : z 53 = .bool true := hk 53 (by decide +kernel) rfl
      have u0 := (cat hB k2.lt).trans (k2.cell 0)
      have u1 := (cat hB k2.lt).trans (k2.cell 1)
      have u2 := (cat hB k2.lt).trans (k2.cell 2)
      have u3 := (cat hB k2.lt).trans (k2.cell 3)
      have u4 := (cat hB k2.lt).trans (k2.cell 4)
      have hK3 := hK (rwv a.kind (.slice x1 x2 x3) a.ty.base a.idx (.slice y1 y2 y3)) w (fun s hs => by cases hs; exact rfl) (Below.refl _ _)
      simp only [over_actQ7] at hK3 ⊢
      clear hK hk
      unfold actQ7 at hK3 ⊢
      simp only [e53] at hK3 ⊢
      refine want_yes rfl (by rfl) ?_
      go_simp
      exact hK3
    · intro o ho p hp _ z w hB hk K' hK
      cases ho
      have e56 : z 56 = rwv a.kind (.slice x1 x2 x3) a.ty.base a.idx (.slice y1 y2 y3) := hk 56 (by decide +kernel) rfl
      have e53 : z 53 = .bool true := hk 53 (by decide +kernel) rfl
      obtain ⟨g1, gn, g2, l1, ln, l2, e55, h55, h55r⟩ := hk 55 (by decide +kernel) rfl
      have hs57 := SameR_calls a a okT okT _ _ _ _ w h55 h55r (ha4.bel hB) (ha4'.bel hB) (by omega)
      rw [a.same_self] at hs57
      have hcall := hs57
      have hK3 := fun (w2 : World) (hb2 : Below w.heap.size w w2) => hK (.bool true) w2 (fun s hs => by cases hs; exact rfl) hb2
      simp only [over_actQ7] at hK3 ⊢
      clear hK hk
      unfold actQ7 at hK3 ⊢
      simp only [e56, e53, e55] at hK3 ⊢
      refine want_yes rfl (by rfl) ?_
      go_simp
      refine ⟨trivial, (callsIn_wide.2 hcall).mono ?_⟩
      rintro e w2 ⟨rfl, hb2⟩
      exact hK3 w2 hb2
    · intro o ho p hp _ z w hB hk K' hK
      cases ho
      have e53 : z 53 = .bool true := hk 53 (by decide +kernel) rfl
      have e57 : z 57 = .bool true := hk 57 (by decide +kernel) rfl
      have hK3 := hK (.bool true) w (fun s hs => by cases hs; exact rfl) (Below.refl _ _)
      simp only [over_actQ7] at hK3 ⊢
      clear hK hk
      unfold actQ7 at hK3 ⊢
      simp only [e53, e57] at hK3 ⊢
      refine want_plain rfl ?_
      go_simp
      exact hK3
    · intro o ho p hp _ z w hB hk K' hK
      cases ho
      have e58 : z 58 = .bool true := hk 58 (by decide +kernel) rfl
      have hK3 := hK (.bool true) w (fun s hs => by cases hs; exact rfl) (Below.refl _ _)
      simp only [over_actQ7] at hK3 ⊢
      clear hK hk
      unfold actQ7 at hK3 ⊢
      simp only [e58] at hK3 ⊢
      refine want_plain rfl ?_
      go_simp
      exact hK3
    · intro z w' hB hv
      have e4 : z 4 = .bool true := hv 4 (by decide +kernel)
      rw [over_actQ7]
      refine hKs _ _ ?_
      unfold actQ7
      simp only [e4]
      have B9 : Below N w w' := bl4.trans (hB.mono hz4)
      go_wp2
      go_ret
      exact ⟨rfl, B9⟩

end Go.Proofs.Ytckagmagjogmnaa
