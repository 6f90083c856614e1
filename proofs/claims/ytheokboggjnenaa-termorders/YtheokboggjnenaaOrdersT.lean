/-
  TermOrders comes out true: the walk.
-/
import Derived.Test.YtheokboggjnenaaCmpOne
import Derived.Test.YtheokboggjnenaaRefCmpT
import Derived.Test.YtheokboggjnenaaEqT
import Derived.Test.YtheokboggjnenaaKnownT
import Derived.Test.YtheokboggjnenaaFewL
import Derived.Test.YtheokboggjnenaaBoxes
import Derived.Deep.RegionHeldLaw
import Derived.Test.YtheokboggjnenaaEtas
namespace Go.Proofs.Ytheokboggjnenaa
open Go Go.RowKit Go.Sort

/-- A built slice of two terms. -/
theorem holdsT_two (w : World) (B : Nat) (hB : w.heap.size = B) (t u : Tm) (e : TypeId) (x1 y1 z1 v1 : Option Addr) (x2 x3 y2 y3 z2 z3 v2 v3 : Nat) (hb : Holds w okT t.binds (.slice x1 x2 x3)) (hr : HoldsT w okT t.args (.slice y1 y2 y3)) (hb' : Holds w okT u.binds (.slice z1 z2 z3)) (hr' : HoldsT w okT u.args (.slice v1 v2 v3)) :
    HoldsT (w.alloc (.cells #[.slice x1 x2 x3, .int .i64 t.kind, .int .i64 t.idx, .slice y1 y2 y3, .slice z1 z2 z3, .int .i64 u.kind, .int .i64 u.idx, .slice v1 v2 v3] e)) okT [t, u] (.slice (some ⟨B, 0, none⟩) 2 2) := by
  have hbk := Blk.new' w B e #[.slice x1 x2 x3, .int .i64 t.kind, .int .i64 t.idx, .slice y1 y2 y3, .slice z1 z2 z3, .int .i64 u.kind, .int .i64 u.idx, .slice v1 v2 v3] hB
  refine HoldsT.mk [t, u] (some ⟨B, 0, none⟩) 2 (fun i => if i = 0 then .slice x1 x2 x3 else .slice z1 z2 z3) (fun i => if i = 0 then .slice y1 y2 y3 else .slice v1 v2 v3) (Nat.le_refl _) (fun h => by cases h) ?_ ?_ ?_
  · intro i v hi
    match i, hi with
    | 0, hi => cases hi; exact ⟨B, 0, rfl, trivial, hbk.cell 0, hbk.cell 1, hbk.cell 2, hbk.cell 3⟩
    | 1, hi => cases hi; exact ⟨B, 0, rfl, trivial, hbk.cell 4, hbk.cell 5, hbk.cell 6, hbk.cell 7⟩
    | i + 2, hi => simp at hi
  · intro i v hi
    match i, hi with
    | 0, hi => cases hi; exact hb.alloc _
    | 1, hi => cases hi; exact hb'.alloc _
    | i + 2, hi => simp at hi
  · intro i v hi
    match i, hi with
    | 0, hi => cases hi; exact hr.alloc _
    | 1, hi => cases hi; exact hr'.alloc _
    | i + 2, hi => simp at hi

def actBO6 (N : Nat) (y0 y1 y4 y7 y8 y9 y10 y11 y12 y13 y18 y19 y20 y21 y22 y23 y24 y25 y26 y27 y28 y29 y30 y31 y32 y33 y34 y35 y36 y37 y38 y39 y40 y41 y42 y43 y44 y45 y46 y47 y48 y49 y50 y51 y52 y53 : Value) (u : Nat → Value) : Act :=
  { tmps := #[y0, y1, .pointer (some ⟨N, 0, none⟩), .pointer (some ⟨N + 1, 0, none⟩), y4, u 5, u 6, y7, y8, y9, y10, y11, y12, y13, u 14, u 15, u 16, u 17, y18, y19, y20, y21, y22, y23, y24, y25, y26, y27, y28, y29, y30, y31, y32, y33, y34, y35, y36, y37, y38, y39, y40, y41, y42, y43, y44, y45, y46, y47, y48, y49, y50, y51, y52, y53], defers := [] }
set_option maxRecDepth 100000 in
theorem over_actBO6 (N : Nat) (y0 y1 y4 y7 y8 y9 y10 y11 y12 y13 y18 y19 y20 y21 y22 y23 y24 y25 y26 y27 y28 y29 y30 y31 y32 y33 y34 y35 y36 y37 y38 y39 y40 y41 y42 y43 y44 y45 y46 y47 y48 y49 y50 y51 y52 y53 : Value) (u0 u : Nat → Value) : over (fun s => (Nat.ble 5 s && Nat.ble s 6) || (Nat.ble 14 s && Nat.ble s 17)) u (actBO6 N y0 y1 y4 y7 y8 y9 y10 y11 y12 y13 y18 y19 y20 y21 y22 y23 y24 y25 y26 y27 y28 y29 y30 y31 y32 y33 y34 y35 y36 y37 y38 y39 y40 y41 y42 y43 y44 y45 y46 y47 y48 y49 y50 y51 y52 y53 u0) = actBO6 N y0 y1 y4 y7 y8 y9 y10 y11 y12 y13 y18 y19 y20 y21 y22 y23 y24 y25 y26 y27 y28 y29 y30 y31 y32 y33 y34 y35 y36 y37 y38 y39 y40 y41 y42 y43 y44 y45 y46 y47 y48 y49 y50 y51 y52 y53 u := rfl
def VBO6 (t u : Tm) (va vb : Value) (s : Nat) (w : World) (ok : Nat → Prop) (v : Value) : Prop := match s with
  | 14 => v = va
  | 15 => ∃ a1 n1 c1 a2 n2 c2, v = tmv (.slice a1 n1 c1) t.kind t.idx (.slice a2 n2 c2) ∧ Holds w ok t.binds (.slice a1 n1 c1) ∧ HoldsT w ok t.args (.slice a2 n2 c2)
  | 16 => v = vb
  | 17 => ∃ a1 n1 c1 a2 n2 c2, v = tmv (.slice a1 n1 c1) u.kind u.idx (.slice a2 n2 c2) ∧ Holds w ok u.binds (.slice a1 n1 c1) ∧ HoldsT w ok u.args (.slice a2 n2 c2)
  | _ => True
theorem VBO6.keep (t u : Tm) (va vb : Value) (s : Nat) (w w' : World) (ok ok' : Nat → Prop) (v : Value) (h : VBO6 t u va vb s w ok v) (hsz : w.heap.size ≤ w'.heap.size) (hkp : ∀ m, m < w.heap.size → ok m → w'.heap[m]? = w.heap[m]? ∧ ok' m) : VBO6 t u va vb s w' ok' v := by
  have _ := hsz
  revert h
  unfold VBO6
  split <;> intro h
  · exact h
  · obtain ⟨a1, n1, c1, a2, n2, c2, e0, h1, h2⟩ := h; exact ⟨a1, n1, c1, a2, n2, c2, e0, h1.keep hkp, h2.keep hkp⟩
  · exact h
  · obtain ⟨a1, n1, c1, a2, n2, c2, e0, h1, h2⟩ := h; exact ⟨a1, n1, c1, a2, n2, c2, e0, h1.keep hkp, h2.keep hkp⟩
  · trivial

set_option maxRecDepth 100000 in
set_option maxHeartbeats 1600000 in
theorem OrdersT_calls (t u : Tm) (sb sr sb' sr' : Value) (w : World) (hb : Holds w okT t.binds sb) (hr : HoldsT w okT t.args sr) (hb' : Holds w okT u.binds sb') (hr' : HoldsT w okT u.args sr') :
    Calls Try.prog 4 #[tmv sb t.kind t.idx sr, tmv sb' u.kind u.idx sr'] w fun e w' => e = .returned (.bool true) ∧ Below w.heap.size w w' := by
  obtain ⟨x1, x3, rfl, _⟩ := hb.shape
  obtain ⟨y1, y3, rfl, _⟩ := hr.shape
  obtain ⟨z1, z3, rfl, _⟩ := hb'.shape
  obtain ⟨v1, v3, rfl, _⟩ := hr'.shape
  obtain ⟨x2, hx2⟩ : ∃ n, t.binds.length = n := ⟨_, rfl⟩
  obtain ⟨y2, hy2⟩ : ∃ n, t.args.length = n := ⟨_, rfl⟩
  obtain ⟨z2, hz2⟩ : ∃ n, u.binds.length = n := ⟨_, rfl⟩
  obtain ⟨v2, hv2⟩ : ∃ n, u.args.length = n := ⟨_, rfl⟩
  rw [hx2] at hb ⊢
  rw [hy2] at hr ⊢
  rw [hz2] at hb' ⊢
  rw [hv2] at hr' ⊢
  obtain ⟨N, hN⟩ : ∃ N, w.heap.size = N := ⟨_, rfl⟩
  rw [hN]
  obtain ⟨W0, hW0⟩ : ∃ W0, (w.alloc (.cells #[.slice x1 x2 x3, .int .i64 t.kind, .int .i64 t.idx, .slice y1 y2 y3] 27)).alloc (.cells #[.slice z1 z2 z3, .int .i64 u.kind, .int .i64 u.idx, .slice v1 v2 v3] 27) = W0 := ⟨_, rfl⟩
  have b0 : Blk W0 N 27 #[.slice x1 x2 x3, .int .i64 t.kind, .int .i64 t.idx, .slice y1 y2 y3] := by rw [← hW0]; exact (Blk.new' w N 27 _ hN).alloc _
  have b1 : Blk W0 (N + 1) 27 #[.slice z1 z2 z3, .int .i64 u.kind, .int .i64 u.idx, .slice v1 v2 v3] := by rw [← hW0]; exact Blk.new' _ (N + 1) 27 _ (by simp [hN])
  have hz0 : W0.heap.size = N + 2 := by rw [← hW0]; simp [hN]
  have bl0 : Below N w W0 := by rw [← hW0]; exact ((Below.refl N w).alloc (by omega) _).alloc (by simp; omega) _
  have hb0 := hb.bel (hN ▸ bl0)
  have hr0 := hr.bel (hN ▸ bl0)
  have hb0' := hb'.bel (hN ▸ bl0)
  have hr0' := hr'.bel (hN ▸ bl0)
  obtain ⟨r1, hr1⟩ : ∃ r, (fewTB 150 70 t && fewTB 150 70 u) = r := ⟨_, rfl⟩
  have hF1 := holdsT_two W0 (N + 2) hz0 t u 27 x1 y1 z1 v1 x2 x3 y2 y3 z2 z3 v2 v3 hb0 hr0 hb0' hr0'
  obtain ⟨W1, hW1⟩ : ∃ W1, W0.alloc (.cells #[.slice x1 x2 x3, .int .i64 t.kind, .int .i64 t.idx, .slice y1 y2 y3, .slice z1 z2 z3, .int .i64 u.kind, .int .i64 u.idx, .slice v1 v2 v3] 27) = W1 := ⟨_, rfl⟩
  rw [hW1] at hF1
  have hfl := FewL_calls [t, u] okT _ W1 hF1 (by simp)
  rw [show [t, u].all (fewTB 150 70) = r1 by rw [← hr1]; simp] at hfl
  have bb1 : Below W0.heap.size W0 W1 := by rw [← hW1]; exact (Below.refl _ _).alloc (Nat.le_refl _) _
  have HR1 : Hid _ := hr1
  have HW : Hid _ := hW0
  have HW1 : Hid _ := hW1
  have c0 := b0.cell 0
  have c1 := b0.cell 1
  have c2 := b0.cell 2
  have c3 := b0.cell 3
  have d0 := b1.cell 0
  have d1 := b1.cell 1
  have d2 := b1.cell 2
  have d3 := b1.cell 3
  have hzN : N ≤ W0.heap.size := by omega
  clear hW0 hW1 hr1 hF1 hb hr hb' hr'
  go_enter Try.func4, Try.ntmps4
  go_upto_region 1 with fail
  rw [HW.out]
  clear HW
  go_wp2_with fail
  rw [HW1.out]
  clear HW1
  refine hfl.mono ?_
  rintro e w1 ⟨rfl, hb1⟩
  have hc1 : Cur W0 w1 := (show Cur W0 W1 from bb1).then hb1
  clear hfl hb1 bb1
  cases r1 with
  | false =>
    go_wp2_with fail
    refine (known_calls _).mono ?_
    rintro e w4 ⟨rfl, hb4⟩
    go_wp2
    go_ret
    exact ⟨rfl, bl0.trans (Below.mono (hc1.then hb4) hzN)⟩
  | true =>
  have hfw := HR1.out
  rw [Bool.and_eq_true] at hfw
  have htt := total_of_few hfw.1
  have htu := total_of_few hfw.2
  clear HR1 hfw c0 c1 c2 c3 d0 d1 d2 d3
  have k0 := b0.below hc1 b0.lt
  have k1 := b1.below hc1 b1.lt
  have hb2 := hc1.holds hb0
  have hr2 := hr0.bel hc1
  have hb2' := hc1.holds hb0'
  have hr2' := hr0'.bel hc1
  have bl2 : Below N w w1 := bl0.trans (Below.mono hc1 hzN)
  have hs2 : N + 2 ≤ w1.heap.size := by have := Below.size hc1; omega
  clear b0 b1 bl0 hb0 hr0 hb0' hr0' hc1 hz0 hzN hN
  go_upto_region 3 with fail
  rename_i K Q' hKs
  refine (wpIn_wide (n := 9)).1 ?_
  show Code.wpIn Fence.wide 9 Try.prog (Code.region 3 _ true) _ (actBO6 N (tmv (Value.slice x1 x2 x3) t.kind t.idx (Value.slice y1 y2 y3)) (tmv (Value.slice z1 z2 z3) u.kind u.idx (Value.slice v1 v2 v3)) (Value.bool false) (undef) (Value.agg #[Value.slice x1 x2 x3, Value.int IntKind.i64 t.kind, Value.int IntKind.i64 t.idx, Value.slice y1 y2 y3]) (Value.agg #[Value.slice z1 z2 z3, Value.int IntKind.i64 u.kind, Value.int IntKind.i64 u.idx, Value.slice v1 v2 v3]) (Value.slice (some { block := N + 2, off := 0 }) 2 2) (Value.bool true) (Value.bool false) (undef) (undef) (undef) (undef) (undef) (undef) (undef) (undef) (undef) (undef) (undef) (undef) (undef) (undef) (undef) (undef) (undef) (undef) (undef) (undef) (undef) (undef) (undef) (undef) (undef) (undef) (undef) (undef) (undef) (undef) (undef) (undef) (undef) (undef) (undef) (undef) (undef) (fun | 5 => undef | 6 => undef | 14 => undef | 15 => undef | 16 => undef | 17 => undef | _ => undef)) w1
  refine region_boxes [(0, 0), (1, 0), (2, 0), (3, 0)] [⟨5, 15, 34, #[.slice none 0 0, .int .i64 0, .int .i64 0, .slice none 0 0], 4, 0, 6⟩, ⟨6, 17, 34, #[.slice none 0 0, .int .i64 0, .int .i64 0, .slice none 0 0], 5, 0, 7⟩] (fun s => (Nat.ble 5 s && Nat.ble s 6) || (Nat.ble 14 s && Nat.ble s 17)) (VBO6 t u (tmv (.slice x1 x2 x3) t.kind t.idx (.slice y1 y2 y3)) (tmv (.slice z1 z2 z3) u.kind u.idx (.slice v1 v2 v3))) (by kernel_rfl) (by kernel_rfl) (by kernel_rfl) (by kernel_rfl) (by kernel_rfl) (by kernel_rfl) (by kernel_rfl) (VBO6.keep t u (tmv (.slice x1 x2 x3) t.kind t.idx (.slice y1 y2 y3)) (tmv (.slice z1 z2 z3) u.kind u.idx (.slice v1 v2 v3))) ⟨?_, ?_, ?_, ?_, trivial⟩ ⟨⟨?_, ?_⟩, ⟨?_, ?_⟩, trivial⟩ ?_
  · intro o ho uu ok w hB hk K' hK
    cases ho
    have g0 := (cat hB k0.lt).trans (k0.cell 0)
    have g1 := (cat hB k0.lt).trans (k0.cell 1)
    have g2 := (cat hB k0.lt).trans (k0.cell 2)
    have g3 := (cat hB k0.lt).trans (k0.cell 3)
    have hK3 := hK (tmv (.slice x1 x2 x3) t.kind t.idx (.slice y1 y2 y3)) w (fun s hs => by cases hs; exact rfl) (Below.refl _ _)
    simp only [over_actBO6] at hK3 ⊢
    clear hK hk
    unfold actBO6 at hK3 ⊢
    refine want_plain rfl ?_
    go_simp
    exact hK3
  · intro o ho uu ok w hB hk K' hK
    cases ho
    have e14 : uu 14 = tmv (.slice x1 x2 x3) t.kind t.idx (.slice y1 y2 y3) := hk 14 (by decide +kernel) rfl
    have hcall := ToT_calls t okT _ _ w (hb2.bel hB) (hr2.bel hB) (by omega)
    have hK3 := fun (w2 : World) (a1 : Option Addr) (n1 c1 : Nat) (a2 : Option Addr) (n2 c2 : Nat) (h1 : Holds w2 (fun m => w.heap.size ≤ m) t.binds (.slice a1 n1 c1)) (h2 : HoldsT w2 (fun m => w.heap.size ≤ m) t.args (.slice a2 n2 c2)) (hb2 : Below w.heap.size w w2) => hK (tmv (.slice a1 n1 c1) t.kind t.idx (.slice a2 n2 c2)) w2 (fun s hs => by cases hs; exact ⟨a1, n1, c1, a2, n2, c2, rfl, h1.mono (fun _ _ h => .inl h), h2.mono (fun _ _ h => .inl h)⟩) hb2
    simp only [over_actBO6] at hK3 ⊢
    clear hK hk
    unfold actBO6 at hK3 ⊢
    simp only [e14] at hK3 ⊢
    refine want_plain rfl ?_
    go_simp
    refine ⟨trivial, (callsIn_wide.2 hcall).mono ?_⟩
    rintro e w2 ⟨vb, vr, rfl, h1, h2, hbw⟩
    obtain ⟨a1, c1, rfl, _⟩ := h1.shape
    obtain ⟨a2, c2, rfl, _⟩ := h2.shape
    exact hK3 w2 a1 _ c1 a2 _ c2 h1 h2 hbw
  · intro o ho uu ok w hB hk K' hK
    cases ho
    have g0 := (cat hB k1.lt).trans (k1.cell 0)
    have g1 := (cat hB k1.lt).trans (k1.cell 1)
    have g2 := (cat hB k1.lt).trans (k1.cell 2)
    have g3 := (cat hB k1.lt).trans (k1.cell 3)
    have hK3 := hK (tmv (.slice z1 z2 z3) u.kind u.idx (.slice v1 v2 v3)) w (fun s hs => by cases hs; exact rfl) (Below.refl _ _)
    simp only [over_actBO6] at hK3 ⊢
    clear hK hk
    unfold actBO6 at hK3 ⊢
    refine want_plain rfl ?_
    go_simp
    exact hK3
  · intro o ho uu ok w hB hk K' hK
    cases ho
    have e16 : uu 16 = tmv (.slice z1 z2 z3) u.kind u.idx (.slice v1 v2 v3) := hk 16 (by decide +kernel) rfl
    have hcall := ToT_calls u okT _ _ w (hb2'.bel hB) (hr2'.bel hB) (by omega)
    have hK3 := fun (w2 : World) (a1 : Option Addr) (n1 c1 : Nat) (a2 : Option Addr) (n2 c2 : Nat) (h1 : Holds w2 (fun m => w.heap.size ≤ m) u.binds (.slice a1 n1 c1)) (h2 : HoldsT w2 (fun m => w.heap.size ≤ m) u.args (.slice a2 n2 c2)) (hb2 : Below w.heap.size w w2) => hK (tmv (.slice a1 n1 c1) u.kind u.idx (.slice a2 n2 c2)) w2 (fun s hs => by cases hs; exact ⟨a1, n1, c1, a2, n2, c2, rfl, h1.mono (fun _ _ h => .inl h), h2.mono (fun _ _ h => .inl h)⟩) hb2
    simp only [over_actBO6] at hK3 ⊢
    clear hK hk
    unfold actBO6 at hK3 ⊢
    simp only [e16] at hK3 ⊢
    refine want_plain rfl ?_
    go_simp
    refine ⟨trivial, (callsIn_wide.2 hcall).mono ?_⟩
    rintro e w2 ⟨vb, vr, rfl, h1, h2, hbw⟩
    obtain ⟨a1, c1, rfl, _⟩ := h1.shape
    obtain ⟨a2, c2, rfl, _⟩ := h2.shape
    exact hK3 w2 a1 _ c1 a2 _ c2 h1 h2 hbw
  · intro o ho uu w K' hK
    cases ho
    simp only [over_actBO6] at hK ⊢
    unfold actBO6 at hK ⊢
    refine want_plain rfl ?_
    go_simp
    exact hK
  · intro o ho uu ok w m hm hb hv K' hK
    cases ho
    dsimp only at hm hb hv hK
    obtain ⟨a1, n1, c1, a2, n2, c2, e15, h1, h2⟩ := hv
    have fz0 := hb.frozen 0
    have cz0 := hb.cell 0
    have fz1 := hb.frozen 1
    have cz1 := hb.cell 1
    have fz2 := hb.frozen 2
    have cz2 := hb.cell 2
    have fz3 := hb.frozen 3
    have cz3 := hb.cell 3
    have b9 := ((((hb.set 0 (.slice a1 n1 c1)).set 1 (.int .i64 t.kind)).set 2 (.int .i64 t.idx)).set 3 (.slice a2 n2 c2))
    have o9 := (((((Only.refl [m] w).set (B := m) (by simp) 0 (.slice a1 n1 c1)).set (B := m) (by simp) 1 (.int .i64 t.kind)).set (B := m) (by simp) 2 (.int .i64 t.idx)).set (B := m) (by simp) 3 (.slice a2 n2 c2))
    rw [e15] at hK
    have hK3 := hK _ b9 o9
    simp only [over_actBO6] at hK3 ⊢
    clear hK b9 o9
    unfold actBO6 at hK3 ⊢
    simp only [hm, e15] at hK3 ⊢
    refine want_plain rfl ?_
    go_simp
    exact hK3
  · intro o ho uu w K' hK
    cases ho
    simp only [over_actBO6] at hK ⊢
    unfold actBO6 at hK ⊢
    refine want_plain rfl ?_
    go_simp
    exact hK
  · intro o ho uu ok w m hm hb hv K' hK
    cases ho
    dsimp only at hm hb hv hK
    obtain ⟨a1, n1, c1, a2, n2, c2, e17, h1, h2⟩ := hv
    have fz0 := hb.frozen 0
    have cz0 := hb.cell 0
    have fz1 := hb.frozen 1
    have cz1 := hb.cell 1
    have fz2 := hb.frozen 2
    have cz2 := hb.cell 2
    have fz3 := hb.frozen 3
    have cz3 := hb.cell 3
    have b9 := ((((hb.set 0 (.slice a1 n1 c1)).set 1 (.int .i64 u.kind)).set 2 (.int .i64 u.idx)).set 3 (.slice a2 n2 c2))
    have o9 := (((((Only.refl [m] w).set (B := m) (by simp) 0 (.slice a1 n1 c1)).set (B := m) (by simp) 1 (.int .i64 u.kind)).set (B := m) (by simp) 2 (.int .i64 u.idx)).set (B := m) (by simp) 3 (.slice a2 n2 c2))
    rw [e17] at hK
    have hK3 := hK _ b9 o9
    simp only [over_actBO6] at hK3 ⊢
    clear hK b9 o9
    unfold actBO6 at hK3 ⊢
    simp only [hm, e17] at hK3 ⊢
    refine want_plain rfl ?_
    go_simp
    exact hK3
  · intro uu w' hB hv hbx
    have e14 : uu 14 = tmv (.slice x1 x2 x3) t.kind t.idx (.slice y1 y2 y3) := hv 14 (by decide +kernel) (by decide +kernel)
    have e16 : uu 16 = tmv (.slice z1 z2 z3) u.kind u.idx (.slice v1 v2 v3) := hv 16 (by decide +kernel) (by decide +kernel)
    obtain ⟨a1_15, n1_15, c1_15, a2_15, n2_15, c2_15, e15, h15_1, h15_2⟩ := hv 15 (by decide +kernel) (by decide +kernel)
    obtain ⟨a1_17, n1_17, c1_17, a2_17, n2_17, c2_17, e17, h17_1, h17_2⟩ := hv 17 (by decide +kernel) (by decide +kernel)
    obtain ⟨m0, em0, gm0, bm0⟩ := hbx _ List.mem_cons_self
    simp only [e15] at bm0
    obtain ⟨m1, em1, gm1, bm1⟩ := hbx _ (by apply List.mem_cons_of_mem; exact List.mem_cons_self)
    simp only [e17] at bm1
    rw [over_actBO6]
    refine hKs _ _ ?_
    unfold actBO6
    simp only [e14, e16, e15, e17, em0, em1]
    have q0 : Blk w' m0 34 #[.slice a1_15 n1_15 c1_15, .int .i64 t.kind, .int .i64 t.idx, .slice a2_15 n2_15 c2_15] := bm0
    have q1 : Blk w' m1 34 #[.slice a1_17 n1_17 c1_17, .int .i64 u.kind, .int .i64 u.idx, .slice a2_17 n2_17 c2_17] := bm1
    have hx1 := h15_1.t
    have hx2 : HoldsT w' okT t.args (.slice a2_15 n2_15 c2_15) := h15_2.mono fun _ _ _ => trivial
    have hy1 := h17_1.t
    have hy2 : HoldsT w' okT u.args (.slice a2_17 n2_17 c2_17) := h17_2.mono fun _ _ _ => trivial
    have ha1 := hb2.bel hB
    have ha2 := hr2.bel hB
    have hz1 := hb2'.bel hB
    have hz2 := hr2'.bel hB
    have p0 := k0.below hB k0.lt
    have p1 := k1.below hB k1.lt
    have bl3 : Below N w w' := bl2.trans (hB.mono (by omega))
    have hzN : N ≤ w'.heap.size := by have := hB.size; omega
    clear bm0 bm1 h15_1 h15_2 h17_1 h17_2 hb2 hr2 hb2' hr2' k0 k1 bl2 hv hbx hB gm0 gm1 e14 e15 e16 e17 em0 em1 hKs
    have c0 := q0.cell 0
    have c1 := q0.cell 1
    have c2 := q0.cell 2
    have c3 := q0.cell 3
    have d0 := q1.cell 0
    have d1 := q1.cell 1
    have d2 := q1.cell 2
    have d3 := q1.cell 3
    have i0 := p0.cell 0
    have i1 := p0.cell 1
    have i2 := p0.cell 2
    have i3 := p0.cell 3
    have j0 := p1.cell 0
    have j1 := p1.cell 1
    have j2 := p1.cell 2
    have j3 := p1.cell 3
    have hK : ∀ v, Cur w' v → v.cell? ⟨m0, 0, none⟩ = some (.slice a1_15 n1_15 c1_15) ∧ v.cell? ⟨m0, 1, none⟩ = some (.int .i64 t.kind) ∧ v.cell? ⟨m0, 2, none⟩ = some (.int .i64 t.idx) ∧ v.cell? ⟨m0, 3, none⟩ = some (.slice a2_15 n2_15 c2_15) ∧ v.cell? ⟨m1, 0, none⟩ = some (.slice a1_17 n1_17 c1_17) ∧ v.cell? ⟨m1, 1, none⟩ = some (.int .i64 u.kind) ∧ v.cell? ⟨m1, 2, none⟩ = some (.int .i64 u.idx) ∧ v.cell? ⟨m1, 3, none⟩ = some (.slice a2_17 n2_17 c2_17) ∧ v.cell? ⟨N, 0, none⟩ = some (.slice x1 x2 x3) ∧ v.cell? ⟨N, 1, none⟩ = some (.int .i64 t.kind) ∧ v.cell? ⟨N, 2, none⟩ = some (.int .i64 t.idx) ∧ v.cell? ⟨N, 3, none⟩ = some (.slice y1 y2 y3) ∧ v.cell? ⟨N + 1, 0, none⟩ = some (.slice z1 z2 z3) ∧ v.cell? ⟨N + 1, 1, none⟩ = some (.int .i64 u.kind) ∧ v.cell? ⟨N + 1, 2, none⟩ = some (.int .i64 u.idx) ∧ v.cell? ⟨N + 1, 3, none⟩ = some (.slice v1 v2 v3) := fun v hv => ⟨hv.cell c0, hv.cell c1, hv.cell c2, hv.cell c3, hv.cell d0, hv.cell d1, hv.cell d2, hv.cell d3, hv.cell i0, hv.cell i1, hv.cell i2, hv.cell i3, hv.cell j0, hv.cell j1, hv.cell j2, hv.cell j3⟩
    have k27 := fun (cur : World) (hc : Cur w' cur) => Calls.cur hc (CompareT_calls t u okT _ _ _ _ cur (hc.holds hx1) (hx2.bel hc) (hc.holds hy1) (hy2.bel hc) (by omega) (by omega))
    have k72 := fun (cur : World) (hc : Cur w' cur) => Calls.cur hc (CompareT_calls u t okT _ _ _ _ cur (hc.holds hy1) (hy2.bel hc) (hc.holds hx1) (hx2.bel hc) (by omega) (by omega))
    have k10 := fun (cur : World) (hc : Cur w' cur) => Calls.cur hc (known_calls cur)
    have k28 := fun (cur : World) (hc : Cur w' cur) => Calls.cur hc (EqualT_calls t (by omega) u okT _ _ _ _ cur (hc.holds hx1) (hx2.bel hc) (hc.holds hy1) (hy2.bel hc))
    have k25 := fun (cur : World) (hc : Cur w' cur) => Calls.cur hc (SameTm_calls t u okT okT _ _ _ _ cur (hc.holds ha1) (ha2.bel hc) (hc.holds hz1) (hz2.bel hc) (by omega))
    have k29 := fun (cur : World) (hc : Cur w' cur) => Calls.cur hc (refCompareT_calls t u _ _ _ _ cur (hc.holds ha1) (ha2.bel hc) (hc.holds hz1) (hz2.bel hc) (by omega) (by omega))
    rw [tcmp_anti t u] at k72
    have HZ : (t.cmp u == 0) = t.same u := by
      rw [Bool.eq_iff_iff, beq_iff_eq, tcmp_zero, t.same_iff]
    obtain ⟨lo1, lo2⟩ := tcmp_lo t u
    generalize t.cmp u = p at *
    generalize t.same u = sm at *
    have hwr1 : wrap64 (-p) = -p := by unfold wrap64; omega
    have hwr2 : IntKind.i64.wrap (-p) = -p := by rw [IntKind.wrap_i64]; omega
    have hcall := k27 w' (Cur.refl w')
    clear p0 p1 q0 q1 hx1 hx2 hy1 hy2 ha1 ha2 hz1 hz2
    go_wp2_with fail
    refine hcall.mono ?_
    rintro e w5 ⟨rfl, hcur⟩
    clear hcall k27 c0 c1 c2 c3 d0 d1 d2 d3 i0 i1 i2 i3 j0 j1 j2 j3
    go_upto_region 5 with fail
    first
      | (go_region_held_law (fun v => v.cell? ⟨m0, 0, none⟩ = some (.slice a1_15 n1_15 c1_15) ∧ v.cell? ⟨m0, 1, none⟩ = some (.int .i64 t.kind) ∧ v.cell? ⟨m0, 2, none⟩ = some (.int .i64 t.idx) ∧ v.cell? ⟨m0, 3, none⟩ = some (.slice a2_15 n2_15 c2_15) ∧ v.cell? ⟨m1, 0, none⟩ = some (.slice a1_17 n1_17 c1_17) ∧ v.cell? ⟨m1, 1, none⟩ = some (.int .i64 u.kind) ∧ v.cell? ⟨m1, 2, none⟩ = some (.int .i64 u.idx) ∧ v.cell? ⟨m1, 3, none⟩ = some (.slice a2_17 n2_17 c2_17) ∧ v.cell? ⟨N, 0, none⟩ = some (.slice x1 x2 x3) ∧ v.cell? ⟨N, 1, none⟩ = some (.int .i64 t.kind) ∧ v.cell? ⟨N, 2, none⟩ = some (.int .i64 t.idx) ∧ v.cell? ⟨N, 3, none⟩ = some (.slice y1 y2 y3) ∧ v.cell? ⟨N + 1, 0, none⟩ = some (.slice z1 z2 z3) ∧ v.cell? ⟨N + 1, 1, none⟩ = some (.int .i64 u.kind) ∧ v.cell? ⟨N + 1, 2, none⟩ = some (.int .i64 u.idx) ∧ v.cell? ⟨N + 1, 3, none⟩ = some (.slice v1 v2 v3))
            (first | exact hK _ (by first | assumption | (refine Cur.drew ?_; assumption)))
            (first
              | (go_at_call 10; refine (k10 _ (by first | assumption | (refine Cur.drew ?_; assumption))).mono ?_; rintro e y4 ⟨rfl, i4⟩)
              | (go_at_call 28; refine (k28 _ (by first | assumption | (refine Cur.drew ?_; assumption))).mono ?_; rintro e y5 ⟨rfl, i5⟩)
              | (go_at_call 25; refine (k25 _ (by first | assumption | (refine Cur.drew ?_; assumption))).mono ?_; rintro e y6 ⟨rfl, i6⟩)
              | (go_at_call 29; refine (k29 _ (by first | assumption | (refine Cur.drew ?_; assumption))).mono ?_; rintro e y7 ⟨rfl, i7⟩)
              | (go_at_call 27; refine (k72 _ (by first | assumption | (refine Cur.drew ?_; assumption))).mono ?_; rintro e y8 ⟨rfl, i8⟩)))
      | fail
    go_wp2
    go_ret
    exact ⟨rfl, bl3.trans (Below.mono (by assumption) hzN)⟩

end Go.Proofs.Ytheokboggjnenaa
