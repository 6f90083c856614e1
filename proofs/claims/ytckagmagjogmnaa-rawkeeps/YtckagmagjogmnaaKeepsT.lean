/-
  RawKeeps comes out true: the walk.
-/
import Derived.Test.YtckagmagjogmnaaKnownR
import Derived.Test.YtckagmagjogmnaaFewR
import Derived.Test.YtckagmagjogmnaaToR
import Derived.Test.YtckagmagjogmnaaWld
import Derived.Test.YtckagmagjogmnaaStepX
namespace Go.Proofs.Ytckagmagjogmnaa
open Go Go.RowKit Go.Sort

theorem smallB_parts {cs ms ctx : List Ty} (h : smallB cs ms ctx = true) : sizeL cs ≤ 1200 ∧ sizeL ms ≤ 1200 ∧ sizeL ctx ≤ 1200 ∧ ctx.length ≤ 20 ∧ ∀ u ∈ ctx, u.size ≤ 60 := by
  unfold smallB at h
  simp only [Bool.and_eq_true, Bool.not_eq_true', Bool.or_eq_false_iff, decide_eq_false_iff_not, List.all_append, List.all_eq_true] at h
  obtain ⟨⟨⟨h1, h2⟩, h3⟩, ⟨h4, h5⟩, h6⟩ := h
  have hs : ∀ u : Ty, fewB 60 60 u = true → u.size ≤ 60 := fun u h => by unfold fewB at h; simp at h; exact h.1
  have k1 := sizeL_le cs 60 fun u hu => hs u (h4 u hu)
  have k2 := sizeL_le ms 60 fun u hu => hs u (h5 u hu)
  have k3 := sizeL_le ctx 60 fun u hu => hs u (h6 u hu)
  exact ⟨by omega, by omega, by omega, by omega, fun u hu => hs u (h6 u hu)⟩
def actBK3 (N : Nat) (z1 : Option Addr) (z2 z3 : Nat) (y0 y2 y4 y6 y10 y11 y12 y13 y14 y15 y16 y17 y18 y19 y20 y21 y22 y23 y24 y25 y26 y27 y34 y35 y36 y37 y38 y39 y40 y41 y42 y43 y44 y45 y46 y47 y48 y49 y50 y51 y52 y53 y54 y55 y56 y57 y58 y59 y60 y61 y62 y63 y64 y65 y66 y67 y68 y69 y70 y71 y72 y73 y74 y75 y76 y77 y78 y79 y80 y81 y82 y83 y84 y85 : Value) (u : Nat → Value) : Act :=
  { tmps := #[y0, .slice z1 z2 z3, y2, .pointer (some ⟨N, 0, none⟩), y4, .pointer (some ⟨N + 1, 0, none⟩), y6, u 7, u 8, u 9, y10, y11, y12, y13, y14, y15, y16, y17, y18, y19, y20, y21, y22, y23, y24, y25, y26, y27, u 28, u 29, u 30, u 31, u 32, u 33, y34, y35, y36, y37, y38, y39, y40, y41, y42, y43, y44, y45, y46, y47, y48, y49, y50, y51, y52, y53, y54, y55, y56, y57, y58, y59, y60, y61, y62, y63, y64, y65, y66, y67, y68, y69, y70, y71, y72, y73, y74, y75, y76, y77, y78, y79, y80, y81, y82, y83, y84, y85], defers := [] }
set_option maxRecDepth 100000 in
theorem over_actBK3 (N : Nat) (z1 : Option Addr) (z2 z3 : Nat) (y0 y2 y4 y6 y10 y11 y12 y13 y14 y15 y16 y17 y18 y19 y20 y21 y22 y23 y24 y25 y26 y27 y34 y35 y36 y37 y38 y39 y40 y41 y42 y43 y44 y45 y46 y47 y48 y49 y50 y51 y52 y53 y54 y55 y56 y57 y58 y59 y60 y61 y62 y63 y64 y65 y66 y67 y68 y69 y70 y71 y72 y73 y74 y75 y76 y77 y78 y79 y80 y81 y82 y83 y84 y85 : Value) (u0 u : Nat → Value) : over (fun s => (Nat.ble 7 s && Nat.ble s 9) || (Nat.ble 28 s && Nat.ble s 33)) u (actBK3 N z1 z2 z3 y0 y2 y4 y6 y10 y11 y12 y13 y14 y15 y16 y17 y18 y19 y20 y21 y22 y23 y24 y25 y26 y27 y34 y35 y36 y37 y38 y39 y40 y41 y42 y43 y44 y45 y46 y47 y48 y49 y50 y51 y52 y53 y54 y55 y56 y57 y58 y59 y60 y61 y62 y63 y64 y65 y66 y67 y68 y69 y70 y71 y72 y73 y74 y75 y76 y77 y78 y79 y80 y81 y82 y83 y84 y85 u0) = actBK3 N z1 z2 z3 y0 y2 y4 y6 y10 y11 y12 y13 y14 y15 y16 y17 y18 y19 y20 y21 y22 y23 y24 y25 y26 y27 y34 y35 y36 y37 y38 y39 y40 y41 y42 y43 y44 y45 y46 y47 y48 y49 y50 y51 y52 y53 y54 y55 y56 y57 y58 y59 y60 y61 y62 y63 y64 y65 y66 y67 y68 y69 y70 y71 y72 y73 y74 y75 y76 y77 y78 y79 y80 y81 y82 y83 y84 y85 u := rfl
def VBK3 (cs ms ctx : List Ty) (bs : Int) (a : Rw) (c1 m1 z1 x1 y1 : Option Addr) (c2 cn m2 mn z2 z3 x2 x3 y2 y3 : Nat) (s : Nat) (w : World) (ok : Nat → Prop) (v : Value) : Prop := match s with
  | 28 => v = wov bs (.slice c1 cn c2) (.slice m1 mn m2)
  | 29 => ∃ p1 p2 p3 q1 q2 q3, v = wov bs (.slice p1 p2 p3) (.slice q1 q2 q3) ∧ Holds w ok cs (.slice p1 p2 p3) ∧ Holds w ok ms (.slice q1 q2 q3)
  | 30 => v = .slice z1 z2 z3
  | 31 => ∃ p1 p2 p3, v = .slice p1 p2 p3 ∧ Holds w ok ctx (.slice p1 p2 p3)
  | 32 => v = rwv a.kind (.slice x1 x2 x3) a.ty.base a.idx (.slice y1 y2 y3)
  | 33 => ∃ a1 n1 c1 a2 n2 c2, v = rwv a.kind (.slice a1 n1 c1) a.ty.base a.idx (.slice a2 n2 c2) ∧ Holds w ok a.ty.args (.slice a1 n1 c1) ∧ HoldsR w ok a.kids (.slice a2 n2 c2)
  | 8 => ∃ p1 p2 p3, v = .slice p1 p2 p3 ∧ Holds w ok ctx (.slice p1 p2 p3)
  | _ => True
theorem VBK3.keep (cs ms ctx : List Ty) (bs : Int) (a : Rw) (c1 m1 z1 x1 y1 : Option Addr) (c2 cn m2 mn z2 z3 x2 x3 y2 y3 : Nat) (s : Nat) (w w' : World) (ok ok' : Nat → Prop) (v : Value) (h : VBK3 cs ms ctx bs a c1 m1 z1 x1 y1 c2 cn m2 mn z2 z3 x2 x3 y2 y3 s w ok v) (hsz : w.heap.size ≤ w'.heap.size) (hkp : ∀ m, m < w.heap.size → ok m → w'.heap[m]? = w.heap[m]? ∧ ok' m) : VBK3 cs ms ctx bs a c1 m1 z1 x1 y1 c2 cn m2 mn z2 z3 x2 x3 y2 y3 s w' ok' v := by
  have _ := hsz
  revert h
  unfold VBK3
  split <;> intro h
  · exact h
  · obtain ⟨p1, p2, p3, q1, q2, q3, e0, h1, h2⟩ := h; exact ⟨p1, p2, p3, q1, q2, q3, e0, h1.keep hkp, h2.keep hkp⟩
  · exact h
  · obtain ⟨p1, p2, p3, e0, h1⟩ := h; exact ⟨p1, p2, p3, e0, h1.keep hkp⟩
  · exact h
  · obtain ⟨a1, n1, c1, a2, n2, c2, e0, h1, h2⟩ := h; exact ⟨a1, n1, c1, a2, n2, c2, e0, h1.keep hkp, h2.keep hkp⟩
  · obtain ⟨p1, p2, p3, e0, h1⟩ := h; exact ⟨p1, p2, p3, e0, h1.keep hkp⟩
  · trivial

set_option maxRecDepth 100000 in
set_option maxHeartbeats 8000000 in
theorem Keeps_calls (cs ms ctx : List Ty) (bs : Int) (a : Rw) (cv mv xv sa ra : Value) (w : World) (hc : Holds w okT cs cv) (hm : Holds w okT ms mv) (hx : Holds w okT ctx xv) (ha : Holds w okT a.ty.args sa) (ha' : HoldsR w okT a.kids ra) (hrg : a.rng) :
    Calls Try.prog 6 #[wov bs cv mv, xv, rwv a.kind sa a.ty.base a.idx ra] w fun e w' => e = .returned (.bool true) ∧ Below w.heap.size w w' := by
  obtain ⟨c1, c2, rfl, _⟩ := hc.shape
  obtain ⟨m1, m2, rfl, _⟩ := hm.shape
  obtain ⟨z1, z3, rfl, _⟩ := hx.shape
  obtain ⟨x1, x3, rfl, _⟩ := ha.shape
  obtain ⟨y1, y3, rfl, _⟩ := ha'.shape
  obtain ⟨cn, hcn⟩ : ∃ n, cs.length = n := ⟨_, rfl⟩
  obtain ⟨mn, hmn⟩ : ∃ n, ms.length = n := ⟨_, rfl⟩
  obtain ⟨z2, hz2⟩ : ∃ n, ctx.length = n := ⟨_, rfl⟩
  obtain ⟨x2, hx2⟩ : ∃ n, a.ty.args.length = n := ⟨_, rfl⟩
  obtain ⟨y2, hy2⟩ : ∃ n, a.kids.length = n := ⟨_, rfl⟩
  rw [hcn] at hc ⊢
  rw [hmn] at hm ⊢
  rw [hz2] at hx ⊢
  rw [hx2] at ha ⊢
  rw [hy2] at ha' ⊢
  obtain ⟨N, hN⟩ : ∃ N, w.heap.size = N := ⟨_, rfl⟩
  rw [hN]
  obtain ⟨W0, hW0⟩ : ∃ W0, (w.alloc (.cells #[.int .i64 bs, .slice c1 cn c2, .slice m1 mn m2] 47)).alloc (.cells #[.int .i64 a.kind, .slice x1 x2 x3, .int .i64 a.ty.base, .int .i64 a.idx, .slice y1 y2 y3] 27) = W0 := ⟨_, rfl⟩
  have b0 : Blk W0 N 47 #[.int .i64 bs, .slice c1 cn c2, .slice m1 mn m2] := by rw [← hW0]; exact (Blk.new' w N 47 _ hN).alloc _
  have b1 : Blk W0 (N + 1) 27 #[.int .i64 a.kind, .slice x1 x2 x3, .int .i64 a.ty.base, .int .i64 a.idx, .slice y1 y2 y3] := by rw [← hW0]; exact Blk.new' _ (N + 1) 27 _ (by simp [hN])
  have hz0 : W0.heap.size = N + 2 := by rw [← hW0]; simp [hN]
  have bl0 : Below N w W0 := by rw [← hW0]; exact ((Below.refl N w).alloc (by omega) _).alloc (by simp; omega) _
  have hc0 := hc.bel (hN ▸ bl0)
  have hm0 := hm.bel (hN ▸ bl0)
  have hx0 := hx.bel (hN ▸ bl0)
  have ha0 := ha.bel (hN ▸ bl0)
  have ha0' := ha'.bel (hN ▸ bl0)
  obtain ⟨W1, hW1⟩ : ∃ W1, W0.alloc (.cells #[.int .i64 a.kind, .slice x1 x2 x3, .int .i64 a.ty.base, .int .i64 a.idx, .slice y1 y2 y3] 27) = W1 := ⟨_, rfl⟩
  have bb1 : Below W0.heap.size W0 W1 := by rw [← hW1]; exact (Below.refl _ _).alloc (Nat.le_refl _) _
  have hF1 : HoldsR W1 okT [a] (.slice (some ⟨N + 2, 0, none⟩) 1 1) := holdsR_one (by rw [← hW1]; exact Blk.new' W0 (N + 2) 27 _ hz0) trivial (ha0.bel bb1) (ha0'.bel bb1)
  obtain ⟨r1, hr1⟩ : ∃ r, fewRB 300 70 a = r := ⟨_, rfl⟩
  have hfl := FewL_calls [a] okT _ W1 hF1 (by simp)
  rw [show [a].all (fewRB 300 70) = r1 by rw [← hr1]; simp] at hfl
  obtain ⟨r2, hr2⟩ : ∃ r, smallB cs ms ctx = r := ⟨_, rfl⟩
  have HR1 : Hid _ := hr1
  have HR2 : Hid _ := hr2
  have hsm := fun (cur : World) (h : Cur W0 cur) => Small_calls cs ms ctx bs (.slice c1 cn c2) (.slice m1 mn m2) (.slice z1 z2 z3) cur (h.holds hc0) (h.holds hm0) (h.holds hx0)
  simp only [hr2] at hsm
  have HW : Hid _ := hW0
  have HW1 : Hid _ := hW1
  have c0 := b1.cell 0
  have c1' := b1.cell 1
  have c2' := b1.cell 2
  have c3 := b1.cell 3
  have c4 := b1.cell 4
  have hzN : N ≤ W0.heap.size := by omega
  clear hW0 hW1 hr1 hr2 hF1 ha ha' hc hm hx hcn hmn hz2 hx2 hy2
  go_enter Try.func6, Try.ntmps6
  go_upto_region 1 with fail
  rw [HW.out]
  clear HW
  go_wp2_with fail
  rw [HW1.out]
  clear HW1
  refine hfl.mono ?_
  rintro e w1 ⟨rfl, hb1⟩
  have hc1 : Cur W0 w1 := (show Cur W0 W1 from bb1).then hb1
  clear hfl hb1 bb1 c0 c1' c2' c3 c4
  cases r1 with
  | false =>
    go_wp2_with fail
    refine (known_calls _).mono ?_
    rintro e w4 ⟨rfl, hb4⟩
    go_wp2
    go_ret
    exact ⟨rfl, bl0.trans (Below.mono (hc1.then hb4) hzN)⟩
  | true =>
  have htota := total_of_few HR1.out
  clear HR1
  have g0 := hc1.cell (b0.cell 0)
  have g1 := hc1.cell (b0.cell 1)
  have g2 := hc1.cell (b0.cell 2)
  have hs2 := hsm w1 hc1
  clear hsm
  go_wp2_with fail
  refine hs2.mono ?_
  rintro e w2 ⟨rfl, hb2⟩
  have hc2 : Cur W0 w2 := hc1.then hb2
  clear hs2 hb2 g0 g1 g2
  cases r2 with
  | false =>
    go_wp2_with fail
    refine (known_calls _).mono ?_
    rintro e w4 ⟨rfl, hb4⟩
    go_wp2
    go_ret
    exact ⟨rfl, bl0.trans (Below.mono (hc2.then hb4) hzN)⟩
  | true =>
  obtain ⟨hzc, hzm, hzx, hlx, hxs⟩ := smallB_parts HR2.out
  clear HR2
  have k0 := b0.below hc2 b0.lt
  have k1 := b1.below hc2 b1.lt
  have hc2' := hc2.holds hc0
  have hm2 := hc2.holds hm0
  have hx2 := hc2.holds hx0
  have ha2 := hc2.holds ha0
  have ha2' := ha0'.bel hc2
  have bl2 : Below N w w2 := bl0.trans (Below.mono hc2 hzN)
  have hz2 : N ≤ w2.heap.size := by have := bl2.size; omega
  have hsa := a.size_le_total
  clear b0 b1 bl0 hc0 hm0 hx0 ha0 ha0' hc1 hc2 hz0 hzN
  go_upto_region 3 with fail
  go_cut [7, 8, 9] (fun s7 s8 s9 wx => ∃ (A B : Nat) (p1 : Option Addr) (p2 p3 : Nat) (q1 : Option Addr) (q2 q3 : Nat) (t1 : Option Addr) (t2 t3 : Nat) (n1 : Option Addr) (n2 n3 : Nat) (n4 : Option Addr) (n5 n6 : Nat), s7 = .pointer (some ⟨A, 0, none⟩) ∧ s8 = .slice t1 t2 t3 ∧ s9 = .pointer (some ⟨B, 0, none⟩) ∧
    Blk wx A 57 #[.int .i64 bs, .slice p1 p2 p3, .slice q1 q2 q3] ∧ Blk wx B 35 #[.int .i64 a.kind, .slice n1 n2 n3, .int .i64 a.ty.base, .int .i64 a.idx, .slice n4 n5 n6] ∧ A ≠ B ∧ w2.heap.size ≤ B ∧ Holds wx (fun b => b ≠ B) cs (.slice p1 p2 p3) ∧ Holds wx (fun b => b ≠ B) ms (.slice q1 q2 q3) ∧ Holds wx (fun b => b ≠ B) ctx (.slice t1 t2 t3) ∧
    Holds wx (fun b => b ≠ B) a.ty.args (.slice n1 n2 n3) ∧ HoldsR wx (fun b => b ≠ B) a.kids (.slice n4 n5 n6) ∧ Below w2.heap.size w2 wx)
  case first =>
    rename_i K Q' hKs
    refine (wpIn_wide (n := 9)).1 ?_
    show Code.wpIn Fence.wide 9 Try.prog (Code.region 3 _ true) _ (actBK3 N z1 z2 z3 (wov bs (.slice c1 cn c2) (.slice m1 mn m2)) (rwv a.kind (.slice x1 x2 x3) a.ty.base a.idx (.slice y1 y2 y3)) (undef) (.bool false) (undef) (undef) (undef) (undef) (undef) (undef) (undef) (rwv a.kind (.slice x1 x2 x3) a.ty.base a.idx (.slice y1 y2 y3)) (.slice (some ⟨N + 2, 0, none⟩) 1 1) (.bool true) (.bool false) (.bool false) (wov bs (.slice c1 cn c2) (.slice m1 mn m2)) (.slice z1 z2 z3) (.bool true) (.bool false) (.bool false) (undef) (undef) (undef) (undef) (undef) (undef) (undef) (undef) (undef) (undef) (undef) (undef) (undef) (undef) (undef) (undef) (undef) (undef) (undef) (undef) (undef) (undef) (undef) (undef) (undef) (undef) (undef) (undef) (undef) (undef) (undef) (undef) (undef) (undef) (undef) (undef) (undef) (undef) (undef) (undef) (undef) (undef) (undef) (undef) (undef) (undef) (undef) (undef) (undef) (undef) (undef) (undef) (undef) (fun | 7 => undef | 8 => undef | 9 => undef | 28 => undef | 29 => undef | 30 => undef | 31 => undef | 32 => undef | 33 => undef | _ => undef)) w2
    refine region_boxes [(0, 0), (1, 0), (2, 0), (3, 0), (4, 0), (5, 0), (9, 1)] [⟨7, 29, 57, #[.int .i64 0, .slice none 0 0, .slice none 0 0], 6, 0, 8⟩, ⟨9, 33, 35, #[.int .i64 0, .slice none 0 0, .int .i64 0, .int .i64 0, .slice none 0 0], 7, 0, 10⟩] (fun s => (Nat.ble 7 s && Nat.ble s 9) || (Nat.ble 28 s && Nat.ble s 33)) (VBK3 cs ms ctx bs a c1 m1 z1 x1 y1 c2 cn m2 mn z2 z3 x2 x3 y2 y3) (by kernel_rfl) (by kernel_rfl) (by kernel_rfl) (by kernel_rfl) (by kernel_rfl) (by kernel_rfl) (by kernel_rfl) (VBK3.keep cs ms ctx bs a c1 m1 z1 x1 y1 c2 cn m2 mn z2 z3 x2 x3 y2 y3) ⟨?_, ?_, ?_, ?_, ?_, ?_, ?_, trivial⟩ ⟨⟨?_, ?_⟩, ⟨?_, ?_⟩, trivial⟩ ?_
    · intro o ho uu ok w hB hk K' hK
      cases ho
      have g0 := (cat hB k0.lt).trans (k0.cell 0)
      have g1 := (cat hB k0.lt).trans (k0.cell 1)
      have g2 := (cat hB k0.lt).trans (k0.cell 2)
      have hK3 := hK (wov bs (.slice c1 cn c2) (.slice m1 mn m2)) w (fun s hs => by cases hs; exact rfl) (Below.refl _ _)
      simp only [over_actBK3] at hK3 ⊢
      clear hK hk
      unfold actBK3 at hK3 ⊢
      refine want_plain rfl ?_
      go_simp
      exact hK3
    · intro o ho uu ok w hB hk K' hK
      cases ho
      have e28 : uu 28 = wov bs (.slice c1 cn c2) (.slice m1 mn m2) := hk 28 (by decide +kernel) rfl
      have hcall := World_calls cs ms bs _ _ w (hc2'.bel hB) (hm2.bel hB) (by omega) (by omega)
      have hK3 := fun (w2 : World) (p1 : Option Addr) (p2 p3 : Nat) (q1 : Option Addr) (q2 q3 : Nat) (h1 : Holds w2 (fun m => w.heap.size ≤ m) cs (.slice p1 p2 p3)) (h2 : Holds w2 (fun m => w.heap.size ≤ m) ms (.slice q1 q2 q3)) (hb2 : Below w.heap.size w w2) => hK (wov bs (.slice p1 p2 p3) (.slice q1 q2 q3)) w2 (fun s hs => by cases hs; exact ⟨p1, p2, p3, q1, q2, q3, rfl, h1.mono (fun _ _ h => .inl h), h2.mono (fun _ _ h => .inl h)⟩) hb2
      simp only [over_actBK3] at hK3 ⊢
      clear hK hk
      unfold actBK3 at hK3 ⊢
      simp only [e28] at hK3 ⊢
      refine want_plain rfl ?_
      go_simp
      refine ⟨trivial, (callsIn_wide.2 hcall).mono ?_⟩
      rintro e w2 ⟨p1, p2, p3, q1, q2, q3, rfl, h1, h2, hbw⟩
      exact hK3 w2 p1 p2 p3 q1 q2 q3 h1 h2 hbw
    · intro o ho uu ok w hB hk K' hK
      cases ho
      have hK3 := hK (.slice z1 z2 z3) w (fun s hs => by cases hs; exact rfl) (Below.refl _ _)
      simp only [over_actBK3] at hK3 ⊢
      clear hK hk
      unfold actBK3 at hK3 ⊢
      refine want_plain rfl ?_
      go_simp
      exact hK3
    · intro o ho uu ok w hB hk K' hK
      cases ho
      have e30 : uu 30 = .slice z1 z2 z3 := hk 30 (by decide +kernel) rfl
      have hcall := TypesT_calls ctx okT _ w (hx2.bel hB) (by omega)
      have hK3 := fun (w2 : World) (p1 : Option Addr) (p2 p3 : Nat) (h1 : Holds w2 (fun m => w.heap.size ≤ m) ctx (.slice p1 p2 p3)) (hb2 : Below w.heap.size w w2) => hK (.slice p1 p2 p3) w2 (fun s hs => by cases hs; exact ⟨p1, p2, p3, rfl, h1.mono (fun _ _ h => .inl h)⟩) hb2
      simp only [over_actBK3] at hK3 ⊢
      clear hK hk
      unfold actBK3 at hK3 ⊢
      simp only [e30] at hK3 ⊢
      refine want_plain rfl ?_
      go_simp
      refine ⟨trivial, (callsIn_wide.2 hcall).mono ?_⟩
      rintro e w2 ⟨vv, rfl, h1, hbw⟩
      obtain ⟨p1, p3, rfl, _⟩ := h1.shape
      exact hK3 w2 p1 _ p3 h1 hbw
    · intro o ho uu ok w hB hk K' hK
      cases ho
      have g0 := (cat hB k1.lt).trans (k1.cell 0)
      have g1 := (cat hB k1.lt).trans (k1.cell 1)
      have g2 := (cat hB k1.lt).trans (k1.cell 2)
      have g3 := (cat hB k1.lt).trans (k1.cell 3)
      have g4 := (cat hB k1.lt).trans (k1.cell 4)
      have hK3 := hK (rwv a.kind (.slice x1 x2 x3) a.ty.base a.idx (.slice y1 y2 y3)) w (fun s hs => by cases hs; exact rfl) (Below.refl _ _)
      simp only [over_actBK3] at hK3 ⊢
      clear hK hk
      unfold actBK3 at hK3 ⊢
      refine want_plain rfl ?_
      go_simp
      exact hK3
    · intro o ho uu ok w hB hk K' hK
      cases ho
      have e32 : uu 32 = rwv a.kind (.slice x1 x2 x3) a.ty.base a.idx (.slice y1 y2 y3) := hk 32 (by decide +kernel) rfl
      have hcall := ToR_calls a okT _ _ w (ha2.bel hB) (ha2'.bel hB) (by omega)
      have hK3 := fun (w2 : World) (a1 : Option Addr) (n1 c1 : Nat) (a2 : Option Addr) (n2 c2 : Nat) (h1 : Holds w2 (fun m => w.heap.size ≤ m) a.ty.args (.slice a1 n1 c1)) (h2 : HoldsR w2 (fun m => w.heap.size ≤ m) a.kids (.slice a2 n2 c2)) (hb2 : Below w.heap.size w w2) => hK (rwv a.kind (.slice a1 n1 c1) a.ty.base a.idx (.slice a2 n2 c2)) w2 (fun s hs => by cases hs; exact ⟨a1, n1, c1, a2, n2, c2, rfl, h1.mono (fun _ _ h => .inl h), h2.mono (fun _ _ h => .inl h)⟩) hb2
      simp only [over_actBK3] at hK3 ⊢
      clear hK hk
      unfold actBK3 at hK3 ⊢
      simp only [e32] at hK3 ⊢
      refine want_plain rfl ?_
      go_simp
      refine ⟨trivial, (callsIn_wide.2 hcall).mono ?_⟩
      rintro e w2 ⟨vb, vr, rfl, h1, h2, hbw⟩
      obtain ⟨a1, c1, rfl, _⟩ := h1.shape
      obtain ⟨a2, c2, rfl, _⟩ := h2.shape
      exact hK3 w2 a1 _ c1 a2 _ c2 h1 h2 hbw
    · intro o ho uu ok w hB hk K' hK
      cases ho
      obtain ⟨p1_31, p2_31, p3_31, e31, h31_1⟩ := hk 31 (by decide +kernel) rfl
      have hK3 := hK (.slice p1_31 p2_31 p3_31) w (fun s hs => by cases hs; exact ⟨p1_31, p2_31, p3_31, rfl, h31_1.mono (fun _ _ h => .inr h)⟩) (Below.refl _ _)
      simp only [over_actBK3] at hK3 ⊢
      clear hK hk
      unfold actBK3 at hK3 ⊢
      simp only [e31] at hK3 ⊢
      refine want_plain rfl ?_
      go_simp
      exact hK3
    · intro o ho uu w K' hK
      cases ho
      simp only [over_actBK3] at hK ⊢
      unfold actBK3 at hK ⊢
      refine want_plain rfl ?_
      go_simp
      exact hK
    · intro o ho uu ok w m hm hb hv K' hK
      cases ho
      dsimp only at hm hb hv hK
      obtain ⟨p1, p2, p3, q1, q2, q3, e29, h1, h2⟩ := hv
      have fz0 := hb.frozen 0
      have cz0 := hb.cell 0
      have fz1 := hb.frozen 1
      have cz1 := hb.cell 1
      have fz2 := hb.frozen 2
      have cz2 := hb.cell 2
      have b9 := (((hb.set 0 (.int .i64 bs)).set 1 (.slice p1 p2 p3)).set 2 (.slice q1 q2 q3))
      have o9 := ((((Only.refl [m] w).set (B := m) (by simp) 0 (.int .i64 bs)).set (B := m) (by simp) 1 (.slice p1 p2 p3)).set (B := m) (by simp) 2 (.slice q1 q2 q3))
      rw [e29] at hK
      have hK3 := hK _ b9 o9
      simp only [over_actBK3] at hK3 ⊢
      clear hK b9 o9
      unfold actBK3 at hK3 ⊢
      simp only [hm, e29] at hK3 ⊢
      refine want_plain rfl ?_
      go_simp
      exact hK3
    · intro o ho uu w K' hK
      cases ho
      simp only [over_actBK3] at hK ⊢
      unfold actBK3 at hK ⊢
      refine want_plain rfl ?_
      go_simp
      exact hK
    · intro o ho uu ok w m hm hb hv K' hK
      cases ho
      dsimp only at hm hb hv hK
      obtain ⟨a1, n1, c1, a2, n2, c2, e33, h1, h2⟩ := hv
      have fz0 := hb.frozen 0
      have cz0 := hb.cell 0
      have fz1 := hb.frozen 1
      have cz1 := hb.cell 1
      have fz2 := hb.frozen 2
      have cz2 := hb.cell 2
      have fz3 := hb.frozen 3
      have cz3 := hb.cell 3
      have fz4 := hb.frozen 4
      have cz4 := hb.cell 4
      have b9 := (((((hb.set 0 (.int .i64 a.kind)).set 1 (.slice a1 n1 c1)).set 2 (.int .i64 a.ty.base)).set 3 (.int .i64 a.idx)).set 4 (.slice a2 n2 c2))
      have o9 := ((((((Only.refl [m] w).set (B := m) (by simp) 0 (.int .i64 a.kind)).set (B := m) (by simp) 1 (.slice a1 n1 c1)).set (B := m) (by simp) 2 (.int .i64 a.ty.base)).set (B := m) (by simp) 3 (.int .i64 a.idx)).set (B := m) (by simp) 4 (.slice a2 n2 c2))
      rw [e33] at hK
      have hK3 := hK _ b9 o9
      simp only [over_actBK3] at hK3 ⊢
      clear hK b9 o9
      unfold actBK3 at hK3 ⊢
      simp only [hm, e33] at hK3 ⊢
      refine want_plain rfl ?_
      go_simp
      exact hK3
    · intro uu w' hB hv hbx
      obtain ⟨p1_29, p2_29, p3_29, q1_29, q2_29, q3_29, e29, h29_1, h29_2⟩ := hv 29 (by decide +kernel) (by decide +kernel)
      obtain ⟨a1_33, n1_33, c1_33, a2_33, n2_33, c2_33, e33, h33_1, h33_2⟩ := hv 33 (by decide +kernel) (by decide +kernel)
      obtain ⟨p1_8, p2_8, p3_8, e8, h8_1⟩ := hv 8 (by decide +kernel) (by decide +kernel)
      obtain ⟨m0, em0, gm0, bm0⟩ := hbx _ List.mem_cons_self
      simp only [e29] at bm0
      obtain ⟨m1, em1, gm1, bm1⟩ := hbx _ (by apply List.mem_cons_of_mem; exact List.mem_cons_self)
      simp only [e33] at bm1
      rw [over_actBK3]
      refine hKs _ _ ?_
      unfold actBK3
      simp only [e29, e33, e8, em0, em1]
      have hO : ∀ b, Out [⟨7, 29, 57, #[.int .i64 0, .slice none 0 0, .slice none 0 0], 6, 0, 8⟩, ⟨9, 33, 35, #[.int .i64 0, .slice none 0 0, .int .i64 0, .int .i64 0, .slice none 0 0], 7, 0, 10⟩] uu b → b ≠ m0 ∧ b ≠ m1 := fun b ho => ⟨fun e => ho _ List.mem_cons_self (by rw [e]; exact em0), fun e => ho _ (List.mem_cons_of_mem _ List.mem_cons_self) (by rw [e]; exact em1)⟩
      have hne : m0 ≠ m1 := fun e => by have h9 := bm0; rw [e] at h9; have h8 : (some (Obj.cells _ 57 (0, 0)) : Option Obj) = some (.cells _ 35 (0, 0)) := h9.symm.trans bm1; injection h8 with h8; injection h8 with _ h8 _; cases h8
      go_wp2_with fail
      go_meet
      exact ⟨m0, m1, p1_29, p2_29, p3_29, q1_29, q2_29, q3_29, p1_8, p2_8, p3_8, a1_33, n1_33, c1_33, a2_33, n2_33, c2_33, rfl, rfl, rfl, bm0, bm1, hne, gm1, h29_1.mono (fun b _ h => (hO b h).2), h29_2.mono (fun b _ h => (hO b h).2), h8_1.mono (fun b _ h => (hO b h).2), h33_1.mono (fun b _ h => (hO b h).2), h33_2.mono (fun b _ h => (hO b h).2), hB⟩
  case rest =>
  obtain ⟨A, B, p1, p2, p3, q1, q2, q3, t1, t2, t3, n1, n2, n3, n4, n5, n6, rfl, rfl, rfl, bA, bB, hAB, hBw, hcs, hms, hxx, hna, hnk, hBc⟩ := hcut
  have hB3 : Below N w wc := bl2.trans (hBc.mono hz2)
  have hz3 := hBc.size
  obtain ⟨P, hP⟩ : ∃ P, a.infer bs cs ms ctx = P := ⟨_, rfl⟩
  have kI := Infer_calls cs ms ctx a bs (.slice p1 p2 p3) (.slice q1 q2 q3) (.slice t1 t2 t3) (.slice n1 n2 n3) (.slice n4 n5 n6) wc hcs.t hms.t hxx.t hna.t (HoldsR.t hnk) (by omega) (by omega) (fun u hu => by have := hxs u hu; omega) hrg (by omega) (by omega)
  rw [hP] at kI
  have HP : Hid (P.2.size ≤ 1000 ∧ (P.1 = 0 → a.right = true ∧ a.tyU cs ms ctx = some P.2)) := by
    refine ⟨by rw [← hP]; unfold Rw.infer; split; exact a.inf_size _ _ _ _; decide, fun h0 => ?_⟩
    rw [← hP] at h0
    by_cases hr : a.right = true
    · refine ⟨hr, inf_tyU (bs := bs) a ctx P.2 (by unfold Rw.right at hr; simp at hr; exact hr.1.1) ?_⟩
      have h1 : a.infer bs cs ms ctx = a.inf bs cs ms ctx := by unfold Rw.infer; rw [if_pos hr]
      rw [h1] at hP h0
      rw [hP] at h0 ⊢
      exact Prod.ext h0 rfl
    · exfalso
      have h1 : a.infer bs cs ms ctx = (1, zT) := by unfold Rw.infer; rw [if_neg hr]
      rw [h1] at h0
      revert h0; decide
  have HX : Hid (a.rng ∧ a.lit ∧ a.fit) := ⟨hrg, a.lit_of_total (by omega), Rw.fit_of_total _ (by omega)⟩
  have HZ : Hid (sizeL cs ≤ 1200 ∧ sizeL ms ≤ 1200 ∧ ctx.length ≤ 20 ∧ ∀ u ∈ ctx, u.size ≤ 60) := ⟨hzc, hzm, hlx, hxs⟩
  have g0 := bA.cell 0
  have g1 := bA.cell 1
  have g2 := bA.cell 2
  have g3 := bB.cell 0
  have g4 := bB.cell 1
  have g5 := bB.cell 2
  have g6 := bB.cell 3
  have g7 := bB.cell 4
  clear hP k0 k1 hc2' hm2 hx2 ha2 ha2' hzc hzm hzx hlx hxs hrg htota hsa
  go_upto_region 4 with fail
  go_wp2_with fail
  refine kI.mono ?_
  unfold InfTold
  rintro e w3 ⟨ra, rn, rc, rfl, hR, hb3⟩
  clear kI g0 g1 g2 g3 g4 g5 g6 g7
  obtain ⟨D, hD⟩ : ∃ D, w3.heap.size = D := ⟨_, rfl⟩
  obtain ⟨W4, hW4⟩ : ∃ W4, w3.alloc (.cells #[.slice ra rn rc, .int .i64 P.2.base] 32) = W4 := ⟨_, rfl⟩
  have hb4 : Below w3.heap.size w3 W4 := by rw [← hW4]; exact (Below.refl _ _).alloc (Nat.le_refl _) _
  have hb34 : Below wc.heap.size wc W4 := hb3.trans (hb4.mono hb3.size)
  have bD4 : Blk W4 D 32 #[.slice ra rn rc, .int .i64 P.2.base] := by rw [← hW4]; exact Blk.new' w3 D 32 _ hD
  have hBlt := bB.lt
  have hR4 : Holds W4 (fun b => b ≠ B) P.2.args (.slice ra rn rc) := (hR.mono fun b _ h => by omega).bel hb4
  have bA4 := bA.below hb34 bA.lt
  have bB4 := bB.below hb34 bB.lt
  have hcs4 := hcs.bel hb34
  have hms4 := hms.bel hb34
  have hxx4 := hxx.bel hb34
  have hna4 := hna.bel hb34
  have hnk4 := hnk.bel hb34
  have hz4 := hb3.size
  have hB4 : Below N w W4 := hB3.trans (hb34.mono (by omega))
  have hDB : D ≠ B := by omega
  have hz5 := hb4.size
  have hNB : N ≤ B := by omega
  have HW4 : Hid _ := hW4
  clear hW4 hR bA bB hcs hms hxx hna hnk hb3 hb4 hb34 hB3 hBc hBw bl2
  go_upto_region 6 with fail
  rw [HW4.out]
  clear HW4 hD
  go_wp2_with fail
  go_loopw [12] (fun iv wr => ∃ (n : Nat) (x : Rw) (u1 : Option Addr) (u2 u3 : Nat) (o1 : Option Addr) (o2 o3 : Nat), n ≤ 20 ∧ iv = .int .i64 n ∧ Blk wr A 57 #[.int .i64 bs, .slice p1 p2 p3, .slice q1 q2 q3] ∧ Blk wr B 35 #[.int .i64 x.kind, .slice u1 u2 u3, .int .i64 x.ty.base, .int .i64 x.idx, .slice o1 o2 o3] ∧ Blk wr D 32 #[.slice ra rn rc, .int .i64 P.2.base] ∧ Hid (P.1 = 0 → x.right = true ∧ x.tyU cs ms ctx = some P.2) ∧ Hid (x.rng ∧ x.lit ∧ x.fit) ∧
      Holds wr (fun b => b ≠ B) cs (.slice p1 p2 p3) ∧ Holds wr (fun b => b ≠ B) ms (.slice q1 q2 q3) ∧ Holds wr (fun b => b ≠ B) ctx (.slice t1 t2 t3) ∧ Holds wr (fun b => b ≠ B) P.2.args (.slice ra rn rc) ∧ Holds wr (fun b => b ≠ B) x.ty.args (.slice u1 u2 u3) ∧ HoldsR wr (fun b => b ≠ B) x.kids (.slice o1 o2 o3) ∧ Below N w wr)
    (fun iv _ => 20 - (intOf iv).toNat)
  case atStart => exact ⟨0, a, n1, n2, n3, n4, n5, n6, by omega, rfl, bA4, bB4, bD4, HP.out.2, HX, hcs4, hms4, hxx4, hR4, hna4, hnk4, hB4⟩
  case round =>
    clear bA4 bB4 bD4 HX hcs4 hms4 hxx4 hR4 hna4 hnk4 hB4 hz5 hz4 hz3 hz2
    obtain ⟨n, x, u1, u2, u3, o1, o2, o3, hn, rfl, bA, bB, bD, HT, HX, hcs, hms, hxx, hPa, hxa, hxk, hbl⟩ := hrel
    have hNw : N ≤ wr.heap.size := by have := bB.lt; omega
    obtain ⟨pe, hpe⟩ : ∃ pe, P.1 = pe := ⟨_, rfl⟩
    rw [hpe] at HT ⊢
    by_cases h0 : pe = 0
    · subst h0
      obtain ⟨hxr, hxt⟩ := HT.out rfl
      by_cases hlt : n < 20
      · have z1 : (n : Int) < 20 := by omega
        have z2 : decide ((n : Int) < 20) = true := by simp; omega
        have h5k : x.size ≤ 5000 ∧ x.depth ≤ 60 := by have h9 := hxr; unfold Rw.right at h9; simp at h9; exact ⟨h9.1.2, h9.2⟩
        have hstep := step_infer (bs := bs) (ctx := ctx) (by have := HZ.out.2.2.1; omega) hxr hxt
        have hX9 := HX.out
        have hy1 := step_rng x false hX9.1
        have hy2 := step_lit x false hX9.2.1
        have hy3 := step_fit x false hX9.2.2
        have hysz := step_size x false
        have hysz2 : (x.step false).1.size ≤ 25000000 := Nat.le_trans hysz (Nat.le_trans (Nat.mul_le_mul h5k.1 h5k.1) (by decide))
        have kS := StepF_calls x okT (.slice u1 u2 u3) (.slice o1 o2 o3) wr hxa.t (HoldsR.t hxk) hX9.2.2 (by omega)
        unfold StepTold at kS
        obtain ⟨y, hy⟩ : ∃ y, (x.step false).1 = y := ⟨_, rfl⟩
        obtain ⟨dn, hdn⟩ : ∃ dn, (x.step false).2 = dn := ⟨_, rfl⟩
        rw [hy] at hstep hy1 hy2 hy3 hysz2
        simp only [hy, hdn] at kS
        have HST : Hid _ := hstep
        have HY : Hid (y.rng ∧ y.lit ∧ y.fit) := ⟨hy1, hy2, hy3⟩
        have g3 := bB.cell 0
        have g4 := bB.cell 1
        have g5 := bB.cell 2
        have g6 := bB.cell 3
        have g7 := bB.cell 4
        clear hstep hy1 hy2 hy3 hysz hy hdn hX9 HX HT hxr hxt hxa hxk h5k
        go_wp2_with fail
        refine kS.mono ?_
        rintro e w5 ⟨vb, vr, rfl, hvb, hvr, hb5⟩
        clear kS g3 g4 g5 g6 g7
        obtain ⟨f1, f3, rfl, _⟩ := hvb.shape
        obtain ⟨g1, g3, rfl, _⟩ := hvr.shape
        obtain ⟨f2, hf2⟩ : ∃ n, y.ty.args.length = n := ⟨_, rfl⟩
        obtain ⟨g2, hg2⟩ : ∃ n, y.kids.length = n := ⟨_, rfl⟩
        rw [hf2] at hvb ⊢
        rw [hg2] at hvr ⊢
        obtain ⟨E, hE⟩ : ∃ E, w5.heap.size = E := ⟨_, rfl⟩
        obtain ⟨W6, hW6⟩ : ∃ W6, w5.alloc (.cells #[.int .i64 y.kind, .slice f1 f2 f3, .int .i64 y.ty.base, .int .i64 y.idx, .slice g1 g2 g3] 35) = W6 := ⟨_, rfl⟩
        have hb6 : Below w5.heap.size w5 W6 := by rw [← hW6]; exact (Below.refl _ _).alloc (Nat.le_refl _) _
        have hb56 : Below wr.heap.size wr W6 := hb5.trans (hb6.mono hb5.size)
        have bE6 : Blk W6 E 35 #[.int .i64 y.kind, .slice f1 f2 f3, .int .i64 y.ty.base, .int .i64 y.idx, .slice g1 g2 g3] := by rw [← hW6]; exact Blk.new' w5 E 35 _ hE
        have hBl := bB.lt
        have hs5 := hb5.size
        have hya6 : Holds W6 (fun b => b ≠ B) y.ty.args (.slice f1 f2 f3) := (hvb.mono fun b _ h => by omega).bel hb6
        have hyk6 : HoldsR W6 (fun b => b ≠ B) y.kids (.slice g1 g2 g3) := (hvr.mono fun b _ h => by omega).bel hb6
        have bA6 := bA.below hb56 bA.lt
        have bB6 := bB.below hb56 bB.lt
        have bD6 := bD.below hb56 bD.lt
        have hcs6 := hcs.bel hb56
        have hms6 := hms.bel hb56
        have hxx6 := hxx.bel hb56
        have hPa6 := hPa.bel hb56
        have hbl6 : Below N w W6 := hbl.trans (hb56.mono hNw)
        have hEB : E ≠ B := by omega
        have HW6 : Hid _ := hW6
        clear hW6 hvb hvr bA bB bD hcs hms hxx hPa hb5 hb6 hb56 hbl hf2 hg2
        cases dn with
        | false =>
          clear HST HY bE6 hya6 hyk6 bA6 bB6 bD6 hcs6 hms6 hxx6 hPa6
          go_upto_region 9 with fail
          rw [HW6.out]
          clear HW6
          go_wp2_with fail
          refine (known_calls _).mono ?_
          rintro e w9 ⟨rfl, hb9⟩
          go_wp2
          go_ret
          exact ⟨rfl, hbl6.trans (hb9.mono (by have := hbl6.size; omega))⟩
        | true =>
          have kRt := RightR_calls y okT (.slice f1 f2 f3) (.slice g1 g2 g3) W6 hya6.t (HoldsR.t hyk6) (by omega)
          obtain ⟨q, hq⟩ : ∃ q, y.right = q := ⟨_, rfl⟩
          rw [hq] at kRt
          have e0 := bE6.cell 0
          have e1 := bE6.cell 1
          have e2 := bE6.cell 2
          have e3 := bE6.cell 3
          have e4 := bE6.cell 4
          go_upto_region 9 with fail
          rw [HW6.out]
          clear HW6 hE
          go_wp2_with fail
          refine kRt.mono ?_
          rintro e w7 ⟨rfl, hb7⟩
          have hbl7 : Below N w w7 := hbl6.trans (hb7.mono (by have := bB6.lt; omega))
          have bE7 := bE6.below hb7 bE6.lt
          have bA7 := bA6.below hb7 bA6.lt
          have bB7 := bB6.below hb7 bB6.lt
          have bD7 := bD6.below hb7 bD6.lt
          have hcs7 := hcs6.bel hb7
          have hms7 := hms6.bel hb7
          have hxx7 := hxx6.bel hb7
          have hPa7 := hPa6.bel hb7
          have hya7 := hya6.bel hb7
          have hyk7 := hyk6.bel hb7
          clear kRt e0 e1 e2 e3 e4 bE6 bA6 bB6 bD6 hcs6 hms6 hxx6 hPa6 hya6 hyk6 hb7 hbl6
          cases q with
          | false =>
            clear HST HY hya7 hyk7 hcs7 hms7 hxx7 hPa7
            have hN7 : N ≤ w7.heap.size := by have := bB7.lt; omega
            go_wp2_with fail
            refine (known_calls _).mono ?_
            rintro e w9 ⟨rfl, hb9⟩
            go_wp2
            go_ret
            exact ⟨rfl, hbl7.trans (hb9.mono hN7)⟩
          | true =>
            have hyd : y.depth ≤ 60 ∧ y.size ≤ 5000 := by have h9 := hq; unfold Rw.right at h9; simp at h9; exact ⟨h9.2, h9.1.2⟩
            have kI2 := InferD_calls cs ms ctx y bs (.slice p1 p2 p3) (.slice q1 q2 q3) (.slice t1 t2 t3) (.slice f1 f2 f3) (.slice g1 g2 g3) w7 hcs7.t hms7.t hxx7.t hya7.t (HoldsR.t hyk7) (by have := HZ.out.1; omega) (by have := HZ.out.2.1; omega) (fun u hu => by have := HZ.out.2.2.2 u hu; omega) HY.out.1 HY.out.2.1 (by omega) (by have := HZ.out.2.2.1; omega)
            have g0 := bA7.cell 0
            have g1 := bA7.cell 1
            have g2 := bA7.cell 2
            have g3' := bE7.cell 0
            have g4 := bE7.cell 1
            have g5 := bE7.cell 2
            have g6 := bE7.cell 3
            have g7 := bE7.cell 4
            clear hyd hysz2
            rcases HST.out.2 hq with hR9 | hR9
            · skip
              have hRe : y.infer bs cs ms ctx = (0, P.2) := hR9
              rw [hRe] at kI2
              go_wp2_with fail
              refine kI2.mono ?_
              unfold InfTold
              rintro e w8 ⟨sa9, sn9, sc9, rfl, hS, hb8⟩
              clear kI2
              obtain ⟨G, hG⟩ : ∃ G, w8.heap.size = G := ⟨_, rfl⟩
              obtain ⟨W8, hW8⟩ : ∃ W8, w8.alloc (.cells #[.slice sa9 sn9 sc9, .int .i64 (P.2).base] 32) = W8 := ⟨_, rfl⟩
              have hb9 : Below w8.heap.size w8 W8 := by rw [← hW8]; exact (Below.refl _ _).alloc (Nat.le_refl _) _
              have hb89 : Below w7.heap.size w7 W8 := hb8.trans (hb9.mono hb8.size)
              have bG9 : Blk W8 G 32 #[.slice sa9 sn9 sc9, .int .i64 (P.2).base] := by rw [← hW8]; exact Blk.new' w8 G 32 _ hG
              have bE9 := bE7.below hb89 bE7.lt
              have bA9 := bA7.below hb89 bA7.lt
              have bB9 := bB7.below hb89 bB7.lt
              have bD9 := bD7.below hb89 bD7.lt
              have hcs9 := hcs7.bel hb89
              have hms9 := hms7.bel hb89
              have hxx9 := hxx7.bel hb89
              have hPa9 := hPa7.bel hb89
              have hya9 := hya7.bel hb89
              have hyk9 := hyk7.bel hb89
              have hbl9 : Below N w W8 := hbl7.trans (hb89.mono (by have := bB7.lt; omega))
              have hS9 : Holds W8 okT (P.2).args (.slice sa9 sn9 sc9) := hS.t.bel hb9
              have HW8 : Hid _ := hW8
              clear hW8 hS bE7 bA7 bB7 bD7 hcs7 hms7 hxx7 hPa7 hya7 hyk7 hb8 hb9 hb89 hbl7 g0 g1 g2 g3' g4 g5 g6 g7
              go_upto_region 11 with fail
              rw [HW8.out]
              clear HW8 hG
              have kE := Equal_calls P.2 (by have := HP.out.1; omega) P.2 okT (.slice ra rn rc) (.slice sa9 sn9 sc9) W8 hPa9.t hS9
              rw [Ty.same_self] at kE
              have d0 := bD9.cell 0
              have d1 := bD9.cell 1
              have d2 := bG9.cell 0
              have d3 := bG9.cell 1
              go_wp2_with fail
              refine kE.mono ?_
              rintro e w10 ⟨rfl, hb10⟩
              have bE9 := bE9.below hb10 bE9.lt
              have bA9 := bA9.below hb10 bA9.lt
              have bB9 := bB9.below hb10 bB9.lt
              have bD9 := bD9.below hb10 bD9.lt
              have hcs9 := hcs9.bel hb10
              have hms9 := hms9.bel hb10
              have hxx9 := hxx9.bel hb10
              have hPa9 := hPa9.bel hb10
              have hya9 := hya9.bel hb10
              have hyk9 := hyk9.bel hb10
              have hbl9 : Below N w w10 := hbl9.trans (hb10.mono (by have := hbl9.size; have := bB9.lt; have := hb10.size; omega))
              clear kE d0 d1 d2 d3 bG9 hS9 hb10
              have e0 := bE9.cell 0
              have e1 := bE9.cell 1
              have e2 := bE9.cell 2
              have e3 := bE9.cell 3
              have e4 := bE9.cell 4
              have j0 := bB9.cell 0
              have j1 := bB9.cell 1
              have j2 := bB9.cell 2
              have j3 := bB9.cell 3
              have j4 := bB9.cell 4
              have l0 := bB9.frozen 0
              have l1 := bB9.frozen 1
              have l2 := bB9.frozen 2
              have l3 := bB9.frozen 3
              have l4 := bB9.frozen 4
              have bB5 := (((((bB9.set 0 (.int .i64 y.kind)).set 1 (.slice f1 f2 f3)).set 2 (.int .i64 y.ty.base)).set 3 (.int .i64 y.idx)).set 4 (.slice g1 g2 g3))
              have bA5 := (((((bA9.other (B' := B) hAB 0 (.int .i64 y.kind)).other (B' := B) hAB 1 (.slice f1 f2 f3)).other (B' := B) hAB 2 (.int .i64 y.ty.base)).other (B' := B) hAB 3 (.int .i64 y.idx)).other (B' := B) hAB 4 (.slice g1 g2 g3))
              have bD5 := (((((bD9.other (B' := B) hDB 0 (.int .i64 y.kind)).other (B' := B) hDB 1 (.slice f1 f2 f3)).other (B' := B) hDB 2 (.int .i64 y.ty.base)).other (B' := B) hDB 3 (.int .i64 y.idx)).other (B' := B) hDB 4 (.slice g1 g2 g3))
              have c5 := holds_set5 (g := B) (ok' := fun b => b ≠ B) hcs9 (fun b _ h => ⟨h, h⟩) (.int .i64 y.kind) (.slice f1 f2 f3) (.int .i64 y.ty.base) (.int .i64 y.idx) (.slice g1 g2 g3)
              have d5 := holds_set5 (g := B) (ok' := fun b => b ≠ B) hms9 (fun b _ h => ⟨h, h⟩) (.int .i64 y.kind) (.slice f1 f2 f3) (.int .i64 y.ty.base) (.int .i64 y.idx) (.slice g1 g2 g3)
              have x5 := holds_set5 (g := B) (ok' := fun b => b ≠ B) hxx9 (fun b _ h => ⟨h, h⟩) (.int .i64 y.kind) (.slice f1 f2 f3) (.int .i64 y.ty.base) (.int .i64 y.idx) (.slice g1 g2 g3)
              have p5 := holds_set5 (g := B) (ok' := fun b => b ≠ B) hPa9 (fun b _ h => ⟨h, h⟩) (.int .i64 y.kind) (.slice f1 f2 f3) (.int .i64 y.ty.base) (.int .i64 y.idx) (.slice g1 g2 g3)
              have y5 := holds_set5 (g := B) (ok' := fun b => b ≠ B) hya9 (fun b _ h => ⟨h, h⟩) (.int .i64 y.kind) (.slice f1 f2 f3) (.int .i64 y.ty.base) (.int .i64 y.idx) (.slice g1 g2 g3)
              have v5 := holdsR_set5 (g := B) (ok' := fun b => b ≠ B) hyk9 (fun b _ h => ⟨h, h⟩) (.int .i64 y.kind) (.slice f1 f2 f3) (.int .i64 y.ty.base) (.int .i64 y.idx) (.slice g1 g2 g3)
              have B5 : Below N w (((((w10.setCell ⟨B, 0, none⟩ (.int .i64 y.kind)).setCell ⟨B, 1, none⟩ (.slice f1 f2 f3)).setCell ⟨B, 2, none⟩ (.int .i64 y.ty.base)).setCell ⟨B, 3, none⟩ (.int .i64 y.idx)).setCell ⟨B, 4, none⟩ (.slice g1 g2 g3)) := (bset (bset (bset (bset (bset hbl9 (by omega) _) (by omega) _) (by omega) _) (by omega) _) (by omega) _)
              clear bB9 bA9 bD9 hcs9 hms9 hxx9 hPa9 hya9 hyk9
              go_wp2
              generalize (((((w10.setCell ⟨B, 0, none⟩ (.int .i64 y.kind)).setCell ⟨B, 1, none⟩ (.slice f1 f2 f3)).setCell ⟨B, 2, none⟩ (.int .i64 y.ty.base)).setCell ⟨B, 3, none⟩ (.int .i64 y.idx)).setCell ⟨B, 4, none⟩ (.slice g1 g2 g3)) = W5 at *
              exact ⟨⟨n + 1, y, f1, f2, f3, g1, g2, g3, by omega, by go_num, bA5, bB5, bD5, fun _ => ⟨hq, HST.out.1⟩, HY, c5, d5, x5, p5, y5, v5, B5⟩, by simp [intOf]; omega⟩
            · skip
              have hRe : y.infer bs cs ms ctx = (2, zT) := hR9
              rw [hRe] at kI2
              go_wp2_with fail
              refine kI2.mono ?_
              unfold InfTold
              rintro e w8 ⟨sa9, sn9, sc9, rfl, hS, hb8⟩
              clear kI2
              obtain ⟨G, hG⟩ : ∃ G, w8.heap.size = G := ⟨_, rfl⟩
              obtain ⟨W8, hW8⟩ : ∃ W8, w8.alloc (.cells #[.slice sa9 sn9 sc9, .int .i64 (zT).base] 32) = W8 := ⟨_, rfl⟩
              have hb9 : Below w8.heap.size w8 W8 := by rw [← hW8]; exact (Below.refl _ _).alloc (Nat.le_refl _) _
              have hb89 : Below w7.heap.size w7 W8 := hb8.trans (hb9.mono hb8.size)
              have bG9 : Blk W8 G 32 #[.slice sa9 sn9 sc9, .int .i64 (zT).base] := by rw [← hW8]; exact Blk.new' w8 G 32 _ hG
              have bE9 := bE7.below hb89 bE7.lt
              have bA9 := bA7.below hb89 bA7.lt
              have bB9 := bB7.below hb89 bB7.lt
              have bD9 := bD7.below hb89 bD7.lt
              have hcs9 := hcs7.bel hb89
              have hms9 := hms7.bel hb89
              have hxx9 := hxx7.bel hb89
              have hPa9 := hPa7.bel hb89
              have hya9 := hya7.bel hb89
              have hyk9 := hyk7.bel hb89
              have hbl9 : Below N w W8 := hbl7.trans (hb89.mono (by have := bB7.lt; omega))
              have hS9 : Holds W8 okT (zT).args (.slice sa9 sn9 sc9) := hS.t.bel hb9
              have HW8 : Hid _ := hW8
              clear hW8 hS bE7 bA7 bB7 bD7 hcs7 hms7 hxx7 hPa7 hya7 hyk7 hb8 hb9 hb89 hbl7 g0 g1 g2 g3' g4 g5 g6 g7
              go_upto_region 11 with fail
              rw [HW8.out]
              clear HW8 hG
              clear bG9 hS9
              have e0 := bE9.cell 0
              have e1 := bE9.cell 1
              have e2 := bE9.cell 2
              have e3 := bE9.cell 3
              have e4 := bE9.cell 4
              have j0 := bB9.cell 0
              have j1 := bB9.cell 1
              have j2 := bB9.cell 2
              have j3 := bB9.cell 3
              have j4 := bB9.cell 4
              have l0 := bB9.frozen 0
              have l1 := bB9.frozen 1
              have l2 := bB9.frozen 2
              have l3 := bB9.frozen 3
              have l4 := bB9.frozen 4
              have bB5 := (((((bB9.set 0 (.int .i64 y.kind)).set 1 (.slice f1 f2 f3)).set 2 (.int .i64 y.ty.base)).set 3 (.int .i64 y.idx)).set 4 (.slice g1 g2 g3))
              have bA5 := (((((bA9.other (B' := B) hAB 0 (.int .i64 y.kind)).other (B' := B) hAB 1 (.slice f1 f2 f3)).other (B' := B) hAB 2 (.int .i64 y.ty.base)).other (B' := B) hAB 3 (.int .i64 y.idx)).other (B' := B) hAB 4 (.slice g1 g2 g3))
              have bD5 := (((((bD9.other (B' := B) hDB 0 (.int .i64 y.kind)).other (B' := B) hDB 1 (.slice f1 f2 f3)).other (B' := B) hDB 2 (.int .i64 y.ty.base)).other (B' := B) hDB 3 (.int .i64 y.idx)).other (B' := B) hDB 4 (.slice g1 g2 g3))
              have c5 := holds_set5 (g := B) (ok' := fun b => b ≠ B) hcs9 (fun b _ h => ⟨h, h⟩) (.int .i64 y.kind) (.slice f1 f2 f3) (.int .i64 y.ty.base) (.int .i64 y.idx) (.slice g1 g2 g3)
              have d5 := holds_set5 (g := B) (ok' := fun b => b ≠ B) hms9 (fun b _ h => ⟨h, h⟩) (.int .i64 y.kind) (.slice f1 f2 f3) (.int .i64 y.ty.base) (.int .i64 y.idx) (.slice g1 g2 g3)
              have x5 := holds_set5 (g := B) (ok' := fun b => b ≠ B) hxx9 (fun b _ h => ⟨h, h⟩) (.int .i64 y.kind) (.slice f1 f2 f3) (.int .i64 y.ty.base) (.int .i64 y.idx) (.slice g1 g2 g3)
              have p5 := holds_set5 (g := B) (ok' := fun b => b ≠ B) hPa9 (fun b _ h => ⟨h, h⟩) (.int .i64 y.kind) (.slice f1 f2 f3) (.int .i64 y.ty.base) (.int .i64 y.idx) (.slice g1 g2 g3)
              have y5 := holds_set5 (g := B) (ok' := fun b => b ≠ B) hya9 (fun b _ h => ⟨h, h⟩) (.int .i64 y.kind) (.slice f1 f2 f3) (.int .i64 y.ty.base) (.int .i64 y.idx) (.slice g1 g2 g3)
              have v5 := holdsR_set5 (g := B) (ok' := fun b => b ≠ B) hyk9 (fun b _ h => ⟨h, h⟩) (.int .i64 y.kind) (.slice f1 f2 f3) (.int .i64 y.ty.base) (.int .i64 y.idx) (.slice g1 g2 g3)
              have B5 : Below N w (((((W8.setCell ⟨B, 0, none⟩ (.int .i64 y.kind)).setCell ⟨B, 1, none⟩ (.slice f1 f2 f3)).setCell ⟨B, 2, none⟩ (.int .i64 y.ty.base)).setCell ⟨B, 3, none⟩ (.int .i64 y.idx)).setCell ⟨B, 4, none⟩ (.slice g1 g2 g3)) := (bset (bset (bset (bset (bset hbl9 (by omega) _) (by omega) _) (by omega) _) (by omega) _) (by omega) _)
              clear bB9 bA9 bD9 hcs9 hms9 hxx9 hPa9 hya9 hyk9
              go_wp2
              generalize (((((W8.setCell ⟨B, 0, none⟩ (.int .i64 y.kind)).setCell ⟨B, 1, none⟩ (.slice f1 f2 f3)).setCell ⟨B, 2, none⟩ (.int .i64 y.ty.base)).setCell ⟨B, 3, none⟩ (.int .i64 y.idx)).setCell ⟨B, 4, none⟩ (.slice g1 g2 g3)) = W5 at *
              exact ⟨⟨n + 1, y, f1, f2, f3, g1, g2, g3, by omega, by go_num, bA5, bB5, bD5, fun _ => ⟨hq, HST.out.1⟩, HY, c5, d5, x5, p5, y5, v5, B5⟩, by simp [intOf]; omega⟩
      · have hn2 : n = 20 := by omega
        subst hn2
        clear HT HX hcs hms hxx hPa hxa hxk bA bB bD
        go_wp2_with fail
        refine (known_calls _).mono ?_
        rintro e w9 ⟨rfl, hb9⟩
        go_wp2
        go_ret
        exact ⟨rfl, hbl.trans (hb9.mono hNw)⟩
    · have z1 : (pe == 0) = false := by simp [h0]
      have z3 : decide (pe = 0) = false := by simp [h0]
      clear HT HX hcs hms hxx hPa hxa hxk bA bB bD
      go_wp2_with fail
      refine (known_calls _).mono ?_
      rintro e w9 ⟨rfl, hb9⟩
      go_wp2
      go_ret
      exact ⟨rfl, hbl.trans (hb9.mono hNw)⟩

end Go.Proofs.Ytckagmagjogmnaa
